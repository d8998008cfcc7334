import PyProof.Rows.All
import Wide.All
import Wide.FinOn
import PyProof.EqAt
import PyProof.EqKinds
import PyProof.TupleCall
import PyProof.NeKinds
import PySem.Challenge.RW_lendrule_k31_all_that_is_held_is_told
import KE.KLam
import KE.KNestM
import KE.KSortedM
import KE.KFromBytes
import KE.KIsAll
import KE.KDictOf
import KE.KDictSum
import KE.KStateDown
set_option maxHeartbeats 0
set_option Elab.async false
set_option linter.all false
set_option maxRecDepth 100000
noncomputable section
section
open PySem PySem.Spec PyProof.Rows
def KR:=@List.findIdx?_eq_some_iff_getElem
def pf:=@PyProof.Rows.slot_tuple_getitem
def KU:=@PyProof.Rows.callWith_builtin1
def mJ:=@List.eq_nil_of_length_eq_zero
def KW:=@F.args_tuple_iterator_next_1
def KY:=@PySem.F.slot_dict_setdefault
def mK:=@PyProof.Rows.callWith_type1
def KZ:=@F.entry_tuple_iterator_next
def K1:=@List.getD_eq_getElem?_getD
def sN:=@Array.perm_iff_toList_perm
def yc:=@F.slot_tuple_iterator_next
def sO:=@List.getElem?_append_right
def K2:=@wpAny_newFunctionEnv_cells
def K3:=@Calls.Name_function_global
def DN:=@Calls.call_function_entry
def sP:=@List.drop_eq_getElem_cons
def jN:=@List.getElem?_append_left
def sQ:=@Array.getElem?_eq_getElem
def DO:=@F.slot_tuple_getattribute
def ph:=@List.getElem?_eq_none_iff
def cS:=@List.getElem?_eq_some_iff
def b7:=@List.getElem?_eq_getElem
def kA:=@AutoSeq1.wpAny_loadPart'
def DP:=@PySem.F.args_tuple_add_2
def DQ:=@F.plain_set_update_loop
def DR:=@PySem.F.entry_tuple_add
def kB:=@wpAny_callSpecial?_slot
def sR:=@Option.bind_eq_some_iff
def DS:=@Int.eq_ofNat_of_zero_le
def yd:=@PySem.F.plainAttrs_list
def DT:=@decide_eq_false_iff_not
def ye:=@Heap.get?_update_other
def fj:=@Nat.le_add_right_of_le
def DU:=@PySem.F.slot_tuple_add
def yf:=@List.take_of_length_le
def sS:=@List.getElem?_set_self
def bA:=@Heap.get?_push_of_some
def DV:=@List.range_succ_eq_map
def sU:=@Option.map_eq_some_iff
def yg:=@List.perm_append_comm
def DW:=@List.take_append_drop
def dm:=@List.mem_append_right
def pj:=@List.getElem?_eq_none
def DX:=@builtinLookup_eq_fast
def px:=@List.mem_iff_getElem?
def mL:=@Array.getElem?_toList
def sW:=@Heap.get?_update_self
def DY:=@Obj.isFreed_of_fields
def dn:=@Nat.le_add_left_of_le
def fI:=@List.mem_append_left
def sX:=@List.pairwise_append
def gQ:=@Bool.and_eq_true_iff
def yh:=@List.mem_iff_getElem
def sY:=@Around.under_plainId
def cK:=@List.mem_of_getElem?
def pz:=@Array.toList_extract
def pC:=@List.getElem?_set_ne
def aM:=@List.mem_cons_of_mem
def fq:=@PySem.mem_of_lookup
def kC:=@beq_eq_false_iff_ne
def sZ:=@List.getElem?_range
def s9:=@List.filterMap_cons
def cU:=@Heap.get?_push_size
def mM:=@Int.toNat_of_nonneg
def pE:=@Heap.SameBut.update
def jO:=@Array.toList_append
def da:=@Array.length_toList
def yi:=@List.map_congr_left
def aG:=@List.mem_singleton
def yj:=@tupleKind_room_in1
def td:=@List.mem_filterMap
def yk:=@Int.emod_lt_of_pos
def pF:=@Obj.data_mapFields
def b8:=@Nat.lt_of_lt_of_le
def DZ:=@wpAny_pyIter_tuple
def yl:=@Array.size_extract
def D0:=@List.Pairwise.drop
def tf:=@Bool.false_eq_true
def jf:=@Nat.lt_of_le_of_lt
def ym:=@List.pairwise_cons
def bK:=@List.length_append
def tj:=@Nat.lt_of_le_of_ne
def aO:=@List.mem_cons_self
def yn:=@Nat.pos_of_ne_zero
def kD:=@wpAny_Call_Name_kw
def bX:=@Bool.false_ne_true
def dY:=@List.length_range
def yo:=@List.reverse_cons
def D1:=@Obj.cls_mapFields
def cC:=@List.append_assoc
def kE:=@wpAny_setState_of
def jg:=@List.flatMap_cons
def yp:=@Bool.not_eq_true'
def D2:=@List.reverse_perm
def fJ:=@of_decide_eq_true
def mN:=@wpAny_truthy_bool
def mO:=@List.map_inj_left
def D3:=@Option.isSome_map
def cw:=@List.getElem?_map
def yq:=@Nat.lt_succ_of_lt
def D4:=@wpAny_pyIter_list
def D5:=@List.take_add_one
def fK:=@List.size_toArray
def fu:=@Int.toNat_natCast
def tq:=@List.nodup_append
def yr:=@Array.toList_push
def jP:=@decide_eq_true_eq
def jh:=@wpAny_newObj_type
def kG:=@List.lookup_cons
def aY:=@Bool.and_eq_true
def yt:=@Around.in1_units
def dy:=@List.mem_flatMap
def D6:=@wpAny_askSetting
def yu:=@List.drop_length
def tu:=@List.length_drop
def fZ:=@Nat.le_add_right
def iq:=@wpAny_call_entry
def dM:=@Option.bind_some
def fw:=@List.not_mem_nil
def tw:=@Nat.lt_succ_self
def D7:=@Nat.max_eq_right
def D8:=@Option.getD_none
def aR:=@List.length_cons
def jQ:=@List.length_take
def D9:=@Nat.lt_of_not_le
def Ea:=@wpAny_isInstance
def Eb:=@noFill_tuple_add
def tx:=@beq_self_eq_true
def pG:=@Nat.le_of_not_lt
def ir:=@List.all_eq_true
def yv:=@List.isEmpty_iff
def yw:=@List.mem_reverse
def mP:=@Int.emod_nonneg
def yx:=@List.foldl_cons
def bU:=@List.map_append
def dc:=@List.append_nil
def f9:=@List.nil_append
def Ec:=@Bool.or_eq_true
def Ed:=@Nat.not_lt_zero
def gC:=@List.mem_filter
def yy:=@wpAny_execs_nil
def mQ:=@wpAny_passesOwn
def iu:=@decide_eq_false
def Ee:=@wpAny_ite_split
def ji:=@Nat.le_add_left
def tD:=@List.find?_cons
def aD:=@List.length_map
def yz:=@List.of_mem_zip
def pH:=@codeAny_builtin
def iw:=@Option.map_some
def Ef:=@List.cons.injEq
def Eg:=@typeLookup_type
def tF:=@List.length_nil
def yA:=@List.length_set
def bB:=@List.mem_append
def jj:=@List.nodup_cons
def cL:=@Option.some.inj
def de:=@List.mem_range
def pK:=@Heap.size_push
def yB:=@List.drop_zero
def tH:=@wpAny_setField
def mR:=@List.nodup_nil
def dq:=@decide_eq_true
def fy:=@wpAny_holding
def yC:=@wpAny_attempt
def pM:=@Paired.length
def gR:=@Nat.lt_irrefl
def iy:=@List.any_cons
def tJ:=@Bool.and_true
def aW:=@List.mem_cons
def tK:=@Prod.mk.injEq
def iz:=@List.all_cons
def aH:=@List.map_cons
def yD:=@plainId_quiet
def dZ:=@Nat.zero_add
def jk:=@Int.le_of_eq
def tM:=@Nat.ne_of_gt
def bL:=@Nat.ne_of_lt
def pN:=@Nat.add_zero
def bC:=@Nat.le_trans
def bY:=@List.map_map
def dN:=@Nat.le_of_lt
def kH:=@Int.le_of_lt
def az:=@List.mem_map
def kJ:=@codeAny_mono
def pO:=@List.map_nil
def gS:=@Nat.le_of_eq
def d8:=@wpS_forRange
def pP:=@wpAny_typeOf
def kK:=@Int.zero_add
def br:=@Heap.lt_size
def pQ:=@Nat.lt_trans
def dt:=@Int.le_trans
def au:=@Nat.le_refl
def pT:=@Int.le_refl
def kL:=@wpAny_field
def dE:=@Nat.zero_le
def tN:=@Nat.le_succ
def yE:=@sizeLine_eq
def kM:=@wpAny_mono
def ag:=@wpAny_bind
def gD:=@wpAny_rule
def ao:=@wpAny_pure
def gE:=@wpS_modify
def bF:=@beq_iff_eq
def mT:=@call_meets
def tO:=@wpAny_call
def bu:=@eq_of_beq
def kO:=@wpS_lift
def fA:=@or_false
def d9:=@wpS_mono
def dO:=@congrArg
def jR:=@if_false
def aA:=@wpS_pure
def ai:=@wpS_bind
def jl:=@if_true
def fB:=@wpS_get
def ee:=@Ne.symm
end
namespace PSh
end PSh
section
namespace L2
open PySem PySem.Spec PyProof.Rows
abbrev bO:=Sum Int Str
inductive V where
 | cf | bl (b:Bool) | int (i:Int) | str (x:Str) | Y9 (b:Array UInt8) | flt (b:UInt64) | ref (a:Addr) | ty (n:String)
 deriving DecidableEq
def RelV:V->Value->Prop
 | .cf,u=>u=Value.none
 | .bl b,u=>u=Value.bool b
 | .int i,u=>∃t,u=Value.int i t
 | .str x,u=>∃t,u=Value.str x t
 | .Y9 b,u=>∃t,u=Value.bytes b t
 | .flt b,u=>∃t,u=Value.float b t
 | .ref a,u=>u=Value.ref a
 | .ty n,u=>u=Value.type n
abbrev Vals:List V->List Value->Prop:=Paired RelV
noncomputable def kV:bO->V
 | .inl i=>.int i
 | .inr x=>.str x
inductive HO where
 /-- a list -/
 | lst (xs:List V)
 /-- a tuple (never ac2) -/
 | aq (xs:List V)
 /-- a dict Tu keys are ints and Zy;one Tu keys are tuples of ints and Zy (Tv empty one is aip) -/
 | dK (kvs:List (bO×V)) | dT (xs:List (List bO×Addr×Value))
 /-- a set of ints: aJ ac3,aJ size -/
 | set (S:Int->Bool) (n:Nat)
 /-- an instance of Tv class at C,aJ dict at dx,aJ Vb -/
 | kP (C dx:Addr) (fs:List (Str×V))
 /-- Tv dict of Tv instance at x -/
 | own (x:Addr)
 /-- Tv dict of an Za -/
 | xd (fs:List (Str×V))
 /-- a bound method,f of x -/
 | met (f x:Addr)
 /-- a range K4 lo,lo+1,.. below hi -/
 | rng (lo hi:Int)
 /-- a Zz aiq is agI to Tv K4 (Tv ad6;a dict while a loop agJ it): air,never written while it is so -/
 | qy (o:Obj) (u:HO)
 /-- a code ZA table -/
 | Eh (q:Str)
 /-- any other Zz,by what is true of aJ one K4 (a def of agK own: ais a S n:=HO.ext λh=>..) -/
 | ext (φ:Heap->Prop)
abbrev Hp:=Addr->Option HO
def Rd(H:Hp)(a:Addr)(u:HO):Prop:=H a=some u\/∃o,H a=some (.qy o u)
noncomputable def dF:List Str:=["arrivals","empties","needs","held"]
def jx(K:W.Frag)(H:Hp)(a:Addr)(xs:List V):Prop :=
 Rd H a (.aq xs) \/
  ∃(o:Obj) (b:Array Value) (n:Nat),K.lookup a=some o/\o.cls=.type "tuple"/\o.data=.seq b n/\b.size<=sizeLine/\Vals xs b.toList
def lF(K:W.Frag)(H:Hp)(a:Addr)(xs:List V):Prop :=
 Rd H a (.lst xs)\/∃(b:List Value) (n:Nat),K.lookup a=some {cls:=.type "list",data:=.seq b.toArray n}/\b.length<=sizeLine/\Vals xs b
structure Iw (K:W.Frag) (C:Addr):Prop where
 pg:W.plainGet K C Str.empty=true
 hd:W.hasDictIn K C=true
 po:W.plainOver K C=true
 sa:W.findIn K (.ref C) "__setattr__"=some (some (.builtin "object.__setattr__"))
def jS(K:W.Frag)(C:Addr)(f:Str):Prop:=W.findIn K (.ref C) f=some none
section
variable {X:Cx} {CX:Ky} {k:Nat} {f C:Addr} {fd:FuncData} {ps:List Str} {sp:Sp} {Tw:List V} {ds:List Value} {E:XK} {x m:Str} {p pos tP:Pos} {e o:Expr} {es:List Expr} {ta:TE} {t:TA}
structure Mk (K:W.Frag) (C f:Addr):Prop where
 makes:W.makesIn K C=true
 init:W.findIn K (.ref C) "__init__"=some (some (.ref f))
 fn:W.isFn K (.ref f)=true
 kp:W.keepIn K (.ref C)=true
end
structure dP (N P:List Str) (sc:Scope):Prop where
 kind:sc.kind=.function
 co:sc.isCoroutine=false
 gen:sc.isGenerator=false
 nd:N.Nodup
 pre:N.take P.length=P
 par:∀x∈P,sc.names.lookup x=some .local\/sc.names.lookup x=some .cell
 nofree:∀y∈sc.names,y.2≠.free
noncomputable def iV(s:Stmt):Arguments:=match s with
 | .FunctionDef _ a _ _ _ _ _ _ _ _=>a
 | _=>{posonlyargs:=[],args:=[],vararg:=none,kwonlyargs:=[],kw_defaults:=[],kwarg:=none,defaults:=[]}
def dD(s:Stmt):List Stmt:=match s with
 | .FunctionDef _ _ b _ _ _ _ _ _ _=>b
 | _=>[]
def ay(s:Stmt):Scope:=match s with
 | .FunctionDef _ _ _ _ _ _ sc _ _ _=>sc
 | _=>{kind:=.function,names:=[],isGenerator:=false,isCoroutine:=false}
structure Ei (K:W.Frag) (x qual:Str) (st:Stmt) (f:Addr) (fd:FuncData):Prop where
 ex:∃(oc:Value) (od:Option Addr) (kV doc pm:Value) (an:Option Addr) (c8 ct:Value) (AM:Array (Option Value)),
  fd=W.fnOf x qual (iV st) (dD st) (ay st) .none kV doc pm an c8 ct/\K.lookup f=some ⟨oc,od,.func fd,AM⟩/\W.codeIn K c8 qual=true
 kp:W.keepIn K (.ref f)=true
section
variable {P:Program} {w:World} {K:W.Frag} {mg:Str->Option Value} {base:Heap}
def K5{st:Stmt}{g:Value}{i d:Option Addr}{j:Array (Option Value)}{kV a e b ct:Value}(l:K.lookup f=some ⟨g,i,.func (W.fnOf x qual (iV st) (dD st) (ay st) .none kV a e d b ct),j⟩)
  (c:W.codeIn K b qual=true) (k:W.keepIn K (.ref f)=true):Ei K x qual st f (W.fnOf x qual (iV st) (dD st) (ay st) .none kV a e d b ct):=⟨⟨g,i,kV,a,e,d,b,ct,j,rfl,l,c⟩,k⟩
end
section
variable {X:Cx} {ae:List (Addr×Obj)} {σ:St} {H:Hp} {s:Shared} {a b:Addr} {k:List bO} {v:V} {r:Value} {A:Around} {E:Value->Shared->Prop} {xs:List (List bO×Addr×Value)}
def gT(K:W.Frag)(H:Hp)(xs:List (List bO×Addr×Value)):Prop:=∀x∈xs,jx K H x.2.1 (x.1.map kV)
end
end L2
namespace L2.U
open PySem PySem.Spec PyProof.Rows
inductive Kd where
 | aq | lst | kP (C:Str) (ns:List Str) | gU (t:Bool) (ks:List (List bO))
inductive PV where
 | cf | bl (b:Bool) | int (i:Int) | str (x:Str) | ref (n:Nat) | fn (x:Str) | nd (k:Kd) (ps:List PV)
noncomputable abbrev PV.aq (ps:List PV):PV:=.nd .aq ps
structure Fz where
 F:Hp
 μ:List Addr
def ClsAt(K:W.Frag)(C:Str)(a:Value):Prop:=W.nsIn K mainGlobals C=some (some a)
def q9(K:W.Frag)(F H:Hp)(a:Addr)(x:Bool):Kd->List V->Prop
 | .aq,b=>x=false/\jx K H a b
 | .lst,b=>if x=true then H a=some (.lst b)else lF K H a b
 | .kP C ns,b=>∃d g fs,ClsAt K C (.ref d)/\Iw K d/\(∀f∈ns,jS K d f)/\H a=some (.kP d g fs)/\fs.map (·.1)=ns/\fs.map (·.2)=b
 | .gU false ks,b=>∃c:List (bO×V),H a=some (.dK c)/\c.map (λy=>[y.1])=ks/\c.map (·.2)=b
 | .gU true ks,b=>∃e,H a=some (.dT e)/\gT K F e/\e.map (·.1)=ks/\Vals b (e.map (·.2.2))
mutual
def b6(K:W.Frag)(F:Fz):PV->V->Prop
 | .cf,v=>v=.cf
 | .bl b,v=>v=.bl b
 | .int i,v=>v=.int i
 | .str x,v=>v=.str x
 | .ref n,v=>∃a,F.μ[n]?=some a/\v=.ref a
 | .fn x,v=>∃a,v=.ref a/\W.nsIn K mainGlobals x=some (some (.ref a))
 | .nd k ps,v=>∃a c,v=.ref a/\q9 K F.F F.F a false k c/\aI K F ps c
def aI(K:W.Frag)(F:Fz):List PV->List V->Prop
 | [],a=>a=[]
 | p::ps,a=>∃v r,a=v::r/\b6 K F p v/\aI K F ps r
end
section
variable {K:W.Frag} {F F':Fz}
def aI.nil:aI K F [] []:=by simp[aI]
def aI.cons(h:b6 K F p v)(t:aI K F ps vs):aI K F (p::ps) (v::vs):=by
 simp only[aI];exact⟨v,vs,rfl,h,t⟩
def dQ:b6 K F .cf v↔v=.cf:=by simp only[b6]
def cx:b6 K F (.bl b) v↔v=.bl b:=by simp only[b6]
def aN:b6 K F (.int i) v↔v=.int i:=by simp only[b6]
def di:b6 K F (.str i) v↔v=.str i:=by simp only[b6]
def jT:b6 K F (.nd k ps) v↔∃a vs,v=.ref a/\q9 K F.F F.F a false k vs/\aI K F ps vs:=by simp only[b6]
def c5:b6 K F (.aq ps) v↔∃a vs,v=.ref a/\jx K F.F a vs/\aI K F ps vs :=
 jT.trans ⟨(by rintro⟨a,vs,b,c,d⟩;exact⟨a,vs,b,c.2,d⟩),(by rintro⟨a,vs,b,c,d⟩;exact⟨a,vs,b,⟨rfl,c⟩,d⟩)⟩
end
structure Pg where
 defs:List (Str×Stmt)
 cons:List (Str×PV):=[]
 dR:List Str:=[]
 tabs:List (Str×List (Str×Str)):=[]
 cls:List (Str×Stmt):=[]
 flds:List Str:=[]
 pU:List Str:=[]
 ZC:List (Str×List (Str×Nat)):=[]
def params(st:Stmt):List Str:=(iV st).args.map λa=>a.arg
def ZD:NameKind->Bool
 | .local=>true
 | .cell=>true
 | _=>false
def cy(st:Stmt):List Str:=params st++((ay st).names.filter λy=>ZD y.2&&!(params st).contains y.1).map λy=>y.1
structure K6 (K:W.Frag) (x:Str) (st:Stmt):Prop where
 ex:∃f fd,W.nsIn K mainGlobals x=some (some (.ref f))/\Ei K x x st f fd/\∀us:List Value,us.length=(params st).length->bindArgs fd ⟨us,[]⟩=pure ((params st).zip us)
 sc:dP (cy st) (params st) (ay st)
def Iy(K:W.Frag)(P:Params)(T:Str)(rows:List (Str×Str)):Prop :=
 ∃a b n,W.nsIn K mainGlobals T=some (some (.ref a))/\K.lookup a=some ⟨.type "dict",none,.dict b n,#[]⟩/\W.KeysLit P b.toList/\∀d∈rows,∃f,W.nsIn K a d.1=some (some (.ref f))/\W.nsIn K mainGlobals d.2=some (some (.ref f))
def ad7{K:W.Frag}{P:Params}{T:Str}{rows:List (Str×Str)}{a:Addr}{b:Array DictEntry}{n:Nat}(h1:W.nsIn K mainGlobals T=some (some (.ref a)))(c:K.lookup a=some ⟨.type "dict",none,.dict b n,#[]⟩)(e:W.KeysLit P b.toList)
  (g:∀d∈rows,∃f,W.nsIn K a d.1=some (some (.ref f))/\W.nsIn K mainGlobals d.2=some (some (.ref f))):Iy K P T rows:=⟨a,b,n,h1,c,e,g⟩
noncomputable def Tz:PV->Value->Bool
 | .int i,.int j _=>i==j
 | .str x,.str y _=>x==y
 | .bl a,.bool b=>a==b
 | .cf,.none=>true
 | _,_=>false
def yF:List PV->List Value->Bool
 | [],[]=>true
 | p::r,u::q=>Tz p u&&yF r q
 | _,_=>false
def Vc{K:W.Frag}{p:PV}{u:Value}(h:Tz p u=true):∃v,RelV v u/\∀F,b6 K F p v:=by
 cases p<;>cases u<;>first | exact absurd h bX | skip
 ·exact⟨.cf,rfl,λF=>dQ.mpr rfl⟩
 ·cases bu h;exact⟨.bl _,rfl,λF=>cx.mpr rfl⟩
 ·cases bu h;exact⟨.int _,⟨_,rfl⟩,λF=>aN.mpr rfl⟩
 ·cases bu h;exact⟨.str _,⟨_,rfl⟩,λF=>di.mpr rfl⟩
def O6{K:W.Frag}{ps:List PV}{c:List Value}(h:yF ps c=true):∃vs,Vals vs c/\∀F,aI K F ps vs:=by
 induction ps generalizing c with
 | nil=>cases c;exact⟨[],.nil,λ_=>.nil⟩;cases h
 | cons p r ih =>
  cases c with
  | nil=>cases h
  | cons u q =>
   have h:=gQ.mp h;obtain⟨v,a,b⟩:=Vc (K:=K) h.1;obtain⟨vs,d,e⟩:=ih h.2;exact⟨v::vs,.cons a d,λF=>.cons (b F) (e F)⟩
def O7{K:W.Frag}{g:Addr}{x:Str}{a:Addr}{ps:List PV}{c:List Value}{n:Nat}{d:Option Addr}{e:Array (Option Value)}(h1:W.nsIn K g x=some (some (.ref a)))(f:K.lookup a=some ⟨.type "tuple",d,.seq c.toArray n,e⟩)(i:yF ps c=true)(j:c.length<=100) :
  ∃u v,W.nsIn K g x=some (some u)/\RelV v u/\∀F,b6 K F (.aq ps) v:=by
 obtain⟨k,r,b⟩:=O6 i;exact⟨_,.ref a,h1,rfl,λF=>c5.mpr ⟨a,k,rfl,.inr ⟨_,c.toArray,n,f,rfl,rfl,by rw[fK];exact bC j (by decide),by grind⟩,b F⟩⟩
def O8{K:W.Frag}{g:Addr}{x:Str}{y:Str}{t:Tok}(a:W.nsIn K g x=some (some (.str y t))):∃u v,W.nsIn K g x=some (some u)/\RelV v u/\∀F,b6 K F (.str y) v:=⟨_,.str y,a,⟨t,rfl⟩,λF=>di.mpr rfl⟩
def O9{K:W.Frag}{g:Addr}{x:Str}{i:Int}{t:Tok}(a:W.nsIn K g x=some (some (.int i t))):∃u v,W.nsIn K g x=some (some u)/\RelV v u/\∀F,b6 K F (.int i) v:=⟨_,.int i,a,⟨t,rfl⟩,λF=>aN.mpr rfl⟩
def Vd(K:W.Frag)(C:Str)(st:Stmt)(a:List Str):Prop:=∃b f d,W.nsIn K mainGlobals C=some (some (.ref b))/\Mk K b f/\Iw K b/\(∀g∈a,jS K b g)/\Ei K "__init__" (C++".__init__") st f d/\(∀c:List Value,c.length=(params st).length->bindArgs d ⟨c,[]⟩=pure ((params st).zip c))/\dP (cy st) (params st) (ay st)
def Ve(K:W.Frag)(x:Str):Prop:=x∈dF/\∃c T,W.tabIn K x=some (c,T)/\W.codeHdIn K c T=true
def K8(K:W.Frag):Prop:=∃a o,W.nsIn K mainGlobals "__builtins__"=some (some (.ref a))/\a≠builtinsNs/\a≠mainGlobals/\K.lookup a=some o/\o.cls=.type "module"/\o.dict=some builtinsNs/\o.data=.plain
structure nA (K:W.Frag) (h:Heap):Prop where
 at_:∀x∈dF,∀c T,W.tabIn K x=some (c,T)->W.codeHdIn K c T=true/\h.get? T=some {cls:=.none,data:=.fields #[]}/\K.lookup T=none
 nd:(dF.filterMap λx=>(W.tabIn K x).map (·.2)).Nodup
def nA.keeps{K:W.Frag}{h h':Heap}(t:nA K h)(k:∀b o,h.get? b=some o->h'.get? b=some o):nA K h':=⟨λx a c T e=>let ⟨d,f,g⟩:=t.at_ x a c T e;⟨d,k _ _ f,g⟩,t.nd⟩
structure K9 (P:Pg) (w:World) (K:W.Frag):Prop where
 hd:∀d∈P.defs,K6 K d.1 d.2
 hc:∀d∈P.cons,∃u v,W.nsIn K mainGlobals d.1=some (some u)/\RelV v u/\∀F,b6 K F d.2 v
 hb:∀x∈P.dR,W.nsIn K mainGlobals x=some none
 ht:∀d∈P.tabs,Iy K w.params d.1 d.2
 hcl:∀d∈P.cls,Vd K d.1 d.2 P.flds
 hlm:∀x∈P.pU,Ve K x
 hbm:P.pU≠[]->K8 K
noncomputable def La:Value->List Addr
 | .ref a=>[a]
 | _=>[]
def Gz:Option Obj->List Addr
 | some ⟨_,_,.dict a _,_⟩=>a.toList.flatMap λe=>La e.val
 | some ⟨_,_,.func fd,_⟩=>La fd.code
 | some ⟨_,_,.cls cd,_⟩=>cd.ns::cd.mro.flatMap La
 | _=>[]
noncomputable def fragOf(h:Heap):List Addr->W.Frag
 | []=>[]
 | a::r=>match h.get? a with
  | some o=>(a,o)::fragOf h r
  | none=>fragOf h r
theorem pV(h:Heap):∀as:List Addr,(fragOf h as).In h
 | []=>λ_ _ e=>by cases e
 | a::r=>λb o e=>by
  unfold fragOf at e;split at e
  ·rename_i c ho;rw[kG]at e;cases z:b==a with
   | true =>
    rw[z]at e;cases e;rw[bu z];exact ho
   | false =>
    rw[z]at e;exact pV h r b o e
  ·exact pV h r b o e
def nsO:Option Obj->List Addr
 | some ⟨_,_,.cls cd,_⟩=>[cd.ns]
 | _=>[]
def ad9(h:Heap)(a:Addr):List Addr:=a::(Gz (h.get? a)++(nsO (h.get? a)).flatMap λb=>(Gz (h.get? b)).flatMap λc=>c::Gz (h.get? c))
def gd(h:Heap):W.Frag:=fragOf h (mainGlobals::(Gz (h.get? mainGlobals)).flatMap (ad9 h))
noncomputable def chFn(K:W.Frag)(x:Str):Option FuncData:=match W.nsIn K mainGlobals x with
 | some (some (.ref f))=>(match K.lookup f with
  | some ⟨_,_,.func fd,_⟩=>(match W.codeIn K fd.code x with
   | true=>some {fd with kwdefaults:=.none,doc:=.none,pyModule:=.none,annotations:=none,code:=.none,closureTuple:=.none}
   | false=>none)
  | _=>none)
 | _=>none
def kf(x:Str)(st:Stmt):FuncData:=W.fnOf x x (iV st) (dD st) (ay st) .none .none .none .none none .none .none
def Pa{K:W.Frag}{x:Str}{st:Stmt}(h:chFn K x=some (kf x st)):∃f a,W.nsIn K mainGlobals x=some (some (.ref f))/\Ei K x x st f a:=by
 unfold chFn at h;split at h
 ·rename_i f d;split at h
  ·rename_i u v a w c;split at h
   ·rename_i hc;have h:=cL h;obtain⟨y,B,C,D,E,H,I,J,L,M,e,g,i,j,k⟩:=a;unfold kf at h;simp only[FuncData.mk.injEq]at h;obtain⟨e1,l,m,o,p,q,r,t,-,-,-,-,-,-,b⟩:=h;subst e1 l m o p q r t b;exact⟨f,_,d,K5 c hc (by unfold W.keepIn;dsimp only;rw[c])⟩
   ·cases h
  ·cases h
 ·cases h
def AV(K:W.Frag)(g:Addr)(d:Str×PV):Bool:=match W.nsIn K g d.1 with
 | some (some (.int j _))=>(match d.2 with | .int i=>i==j | _=>false)
 | some (some (.str y _))=>(match d.2 with | .str x=>x==y | _=>false)
 | some (some (.ref a))=>(match K.lookup a with
  | some ⟨.type t,_,.seq us _,_⟩=>(match d.2 with | .nd .aq ps=>(t=="tuple")&&(yF ps us.toList&&decide (us.toList.length<=100)) | _=>false)
  | _=>false)
 | _=>false
def Lb{K:W.Frag}{g:Addr}{x:Str}{p:PV}(h:AV K g (x,p)=true):∃u v,W.nsIn K g x=some (some u)/\RelV v u/\∀F,b6 K F p v:=by
 unfold AV at h;dsimp only at h
 split at h
 ·rename_i j t b;split at h
  ·obtain rfl:=bu h;exact O9 b
  ·cases h
 ·rename_i y t b;split at h
  ·obtain rfl:=bu h;exact O8 b
  ·cases h
 ·rename_i a b;split at h
  ·rename_i t k c n l d;split at h
   ·rw[aY,aY]at h;obtain⟨e,f,i⟩:=h;obtain rfl:=bu e;obtain⟨c⟩:=c;exact O7 b d f (fJ i)
   ·cases h
  ·cases h
 ·cases h
def AW(K:W.Frag)(x:Str):Bool:=match W.nsIn K mainGlobals x with
 | some none=>true
 | _=>false
def Ld{K:W.Frag}{x:Str}(h:AW K x=true):W.nsIn K mainGlobals x=some none:=by
 unfold AW at h;split at h
 ·assumption
 ·cases h
abbrev OV:=Option (Option Value)
noncomputable def Le(e:DictEntry):Option Str×Int:=(match e.key with
 | .str x _=>some x
 | _=>none,e.hash)
noncomputable def Lf(K:W.Frag)(a:Addr)(d:Str×Str):Bool:=match W.nsIn K a d.1,W.nsIn K mainGlobals d.2 with
 | some (some (.ref f)),some (some (.ref g))=>f==g
 | _,_=>false
def AX(K:W.Frag)(T:Str)(rows:List (Str×Str)):Option (Value×Option Addr×Array (Option Value)×List (Option Str×Int)×Bool):=match W.nsIn K mainGlobals T with
 | some (some (.ref a))=>(match K.lookup a with
  | some ⟨c,b,.dict d _,e⟩=>some (c,b,e,d.toList.map Le,rows.all (Lf K a))
  | _=>none)
 | _=>none
noncomputable def tQ(P:Params)(rows:List (Str×Str)):Option (Value×Option Addr×Array (Option Value)×List (Option Str×Int)×Bool):=some (.type "dict",none,#[],rows.map (λd=>(some d.1,PyData.keyHash P d.1)),true)
theorem AY{f:Type}{P:Params}:∀{a:List DictEntry} {rows:List (Str×f)},a.map Le=rows.map (λd=>(some d.1,PyData.keyHash P d.1))->W.KeysLit P a
 | [],_,_=>trivial
 | _::_,[],h=>by cases h
 | e::a,d::rows,h=>by
  rw[aH,aH,Ef]at h;obtain⟨b,g⟩:=h;refine⟨?_,AY g⟩;unfold Le at b;rw[tK]at b;obtain⟨c,i⟩:=b;split at c
  ·grind
  ·cases c
def Lg{K:W.Frag}{a:Addr}{d:Str×Str}(h:Lf K a d=true):∃f,W.nsIn K a d.1=some (some (.ref f))/\W.nsIn K mainGlobals d.2=some (some (.ref f)):=by
 unfold Lf at h;split at h
 ·grind
 ·cases h
def Lh{K:W.Frag}{P:Params}{T:Str}{rows:List (Str×Str)}(h:AX K T rows=tQ P rows):Iy K P T rows:=by
 unfold AX tQ at h;split at h
 ·rename_i a b;split at h
  ·rename_i c i j n k e;have h:=cL h;simp only[tK]at h;obtain⟨rfl,rfl,rfl,f,g⟩:=h;exact ad7 b e (AY f) λd hd=>Lg (ir.mp g d hd)
  ·cases h
 ·cases h
abbrev aeb:=Option (Value×Option Addr×Array (Option Value)×List (Option Str×Int)×Bool)
noncomputable def Ej(K:W.Frag)(f:Addr)(qual:Str):Option FuncData:=match K.lookup f with
 | some ⟨_,_,.func fd,_⟩=>(match W.codeIn K fd.code qual with
  | true=>some {fd with kwdefaults:=.none,doc:=.none,pyModule:=.none,annotations:=none,code:=.none,closureTuple:=.none}
  | false=>none)
 | _=>none
def Li(x qual:Str)(st:Stmt):FuncData:=W.fnOf x qual (iV st) (dD st) (ay st) .none .none .none .none none .none .none
def Iz{K:W.Frag}{x qual:Str}{st:Stmt}{f:Addr}(h:Ej K f qual=some (Li x qual st)):∃a,Ei K x qual st f a:=by
 unfold Ej at h;split at h
 ·rename_i t u a v c;split at h
  ·rename_i hc;have h:=cL h;obtain⟨w,y,B,C,D,E,H,I,J,L,d,e,g,i,j⟩:=a;unfold Li at h;simp only[FuncData.mk.injEq]at h;obtain⟨e1,k,l,m,o,p,q,r,-,-,-,-,-,-,b⟩:=h;subst e1 k l m o p q r b;exact⟨_,K5 c hc (by unfold W.keepIn;dsimp only;rw[c])⟩
  ·cases h
 ·cases h
abbrev Vf:=Option (Bool×OV×List OV×Option FuncData)
def AZ(K:W.Frag)(b:List Str)(C:Str):Vf:=match W.nsIn K mainGlobals C with
 | some (some (.ref a))=>(match W.findIn K (.ref a) "__init__" with
  | some (some (.ref f))=>some (W.makesIn K a&&(W.isFn K (.ref f)&&(W.keepIn K (.ref a)&&(W.plainGet K a Str.empty&&(W.hasDictIn K a&&W.plainOver K a)))),W.findIn K (.ref a) "__setattr__",b.map (λg=>W.findIn K (.ref a) g),Ej K f (C++".__init__"))
  | _=>none)
 | _=>none
def tV(a:List Str)(C:Str)(st:Stmt):Vf:=some (true,some (some (.builtin "object.__setattr__")),a.map (λ_=>some none),some (Li "__init__" (C++".__init__") st))
def yG:List Str->Bool
 | []=>true
 | x::r=>!r.contains x&&yG r
theorem wN:∀{l:List Str},yG l=true->l.Nodup
 | [],_=>mR
 | x::r,h=>by
  simp only[yG,aY,yp,List.contains_eq_mem,DT]at h;exact jj.mpr ⟨h.1,wN h.2⟩
def aec:Option NameKind->Bool
 | some .local=>true
 | some .cell=>true
 | _=>false
def ZF:NameKind->Bool
 | .free=>false
 | _=>true
def ZG:ScopeKind->Bool
 | .function=>true
 | _=>false
def Pb(st:Stmt):Bool:=ZG (ay st).kind&&(!(ay st).isCoroutine&&(!(ay st).isGenerator&&(yG (cy st)&&((params st).all (λx=>aec ((ay st).names.lookup x))&&(ay st).names.all λy=>ZF y.2))))
def Lj{st:Stmt}(h:Pb st=true):dP (cy st) (params st) (ay st):=by
 unfold Pb at h;rw[aY,aY,aY,aY,aY]at h;obtain⟨a,i,j,c,d,e⟩:=h;refine⟨?_,by grind,by grind,wN c,?_,λx f=>?_,λy g=>?_⟩
 ·cases z:(ay st).kind<;>rw[z]at a<;>first | rfl | cases a
 ·exact List.take_left
 ·have k:=ir.mp d x f;cases z:(ay st).names.lookup x with
  | none=>rw[z]at k;cases k
  | some b =>
   rw[z]at k;cases b<;>first | exact .inl rfl | exact .inr rfl | cases k
 ·have k:=ir.mp e y g;intro z;rw[z]at k;cases k
def GA(P:Pg):Prop:=∀(kV a b:Value) (an:Option Addr) (c ct:Value) (u:Nat->Value),
 P.defs.map (λd=>bindArgs (W.fnOf d.1 d.1 (iV d.2) (dD d.2) (ay d.2) .none kV a b an c ct) ⟨(List.range (params d.2).length).map u,[]⟩)=P.defs.map λd=>pure ((params d.2).zip ((List.range (params d.2).length).map u))
def A0{a:List Value}{n:Nat}(h:a.length=n):(List.range n).map (λi=>a.getD i .none)=a:=by
 subst h;apply List.ext_getElem
 ·simp
 ·intro i c b;simp[b]
def Vg{K:W.Frag}{x:Str}{st:Stmt}{f:Addr}{c:FuncData}{P:Pg}(d:GA P)(hd:(x,st)∈P.defs)(F:Ei K x x st f c)(a:List Value)(e:a.length=(params st).length):bindArgs c ⟨a,[]⟩=pure ((params st).zip a):=by
 obtain⟨m,o,kV,b,g,j,l,ct,p,rfl,q,r⟩:=F.ex;have k:=mO.mp (d kV b g j l ct λi=>a.getD i .none) (x,st) hd
 dsimp only at k
 rw[A0 e]at k;exact k
def Pc(P:Pg):Prop:=∀(kV a b:Value) (an:Option Addr) (c ct:Value) (u:Nat->Value),
 P.cls.map (λd=>bindArgs (W.fnOf "__init__" (d.1++".__init__") (iV d.2) (dD d.2) (ay d.2) .none kV a b an c ct) ⟨(List.range (params d.2).length).map u,[]⟩)=P.cls.map λd=>pure ((params d.2).zip ((List.range (params d.2).length).map u))
def Lk{K:W.Frag}{P:Pg}{C:Str}{st:Stmt}(Vh:Pb st=true)(c:Pc P)(hd:(C,st)∈P.cls)(h:AZ K P.flds C=tV P.flds C st):Vd K C st P.flds:=by
 unfold AZ tV at h;split at h
 ·rename_i a d;split at h
  ·rename_i f e;have h:=cL h;simp only[tK,aY]at h;obtain⟨⟨j,l,m,o,p,q⟩,r,t,u⟩:=h;obtain⟨v,F⟩:=Iz u;refine⟨a,f,v,d,⟨j,e,l,m⟩,⟨o,p,q,r⟩,λg w=>mO.mp t g w,F,λx y=>?_,Lj Vh⟩
   obtain⟨H,I,kV,b,B,D,E,ct,J,rfl,L,M⟩:=F.ex;have k:=mO.mp (c kV b B D E ct λi=>x.getD i .none) (C,st) hd
   dsimp only at k
   rw[A0 y]at k;exact k
  ·cases h
 ·cases h
noncomputable def El(K:W.Frag)(h:Heap)(x:Str):Bool:=match W.tabIn K x with
 | none=>true
 | some (c,T)=>W.codeHdIn K c T&&((K.lookup T).isNone&&(match h.get? T with
  | some ⟨.none,none,.fields a,b⟩=>a.isEmpty&&b.isEmpty
  | _=>false))
noncomputable def Vi(K:W.Frag):Bool:=match W.nsIn K mainGlobals "__builtins__" with
 | some (some (.ref bm))=>!(bm==builtinsNs)&&(!(bm==mainGlobals)&&(match K.lookup bm with
  | some ⟨.type m,some d,.plain,_⟩=>(m=="module")&&(d==builtinsNs)
  | _=>false))
 | _=>false
def A1(P:Pg)(K:W.Frag)(h:Heap):Bool:=dF.all (El K h)&&(decide (dF.filterMap λx=>(W.tabIn K x).map (·.2)).Nodup&&((P.pU.isEmpty || Vi K)&&P.pU.all λx=>dF.contains x&&(W.tabIn K x).isSome))
def wO{K:W.Frag}{h:Heap}{x:Str}{c T:Addr}(e:El K h x=true)(t:W.tabIn K x=some (c,T)):W.codeHdIn K c T=true/\h.get? T=some {cls:=.none,data:=.fields #[]}/\K.lookup T=none:=by
 unfold El at e;rw[t]at e;simp only[aY]at e;obtain⟨b,d,a⟩:=e;refine⟨b,?_,by simpa using d⟩
 split at a
 ·grind
 ·cases a
def Pd{K:W.Frag}(e:Vi K=true):K8 K:=by
 unfold Vi at e;split at e
 ·rename_i b c;simp only[aY]at e;obtain⟨f,g,a⟩:=e;split at a
  ·rename_i m d i z;rw[aY]at a;obtain rfl:=bu a.1;obtain rfl:=bu a.2;exact⟨b,_,c,by grind,by grind,z,rfl,rfl,rfl⟩
  ·cases a
 ·cases e
def Ll{P:Pg}{K:W.Frag}{h:Heap}(e:A1 P K h=true):nA K h/\(∀x∈P.pU,Ve K x)/\(P.pU≠[]->K8 K):=by
 unfold A1 at e;simp only[aY]at e;obtain⟨f,g,i,j⟩:=e;have all:=ir.mp f;refine⟨⟨λx a c T t=>wO (all x a) t,fJ g⟩,λx a=>?_,λz=>?_⟩
 ·have:=ir.mp j x a;rw[aY]at this;have b:x∈dF:=by grind
  cases t:W.tabIn K x with
  | none=>rw[t]at this;cases this.2
  | some d=>exact⟨b,d.1,d.2,t,(wO (all x b) t).1⟩
 ·rcases Bool.or_eq_true_iff.mp i with y | y
  ·grind
  ·exact Pd y
abbrev Vj:=List (Option FuncData)×List (Option FuncData)×Bool×List aeb×List Vf
def Em(P:Pg)(K:W.Frag)(hp:Heap):Vj:=((P.defs.take 26).map (λd=>chFn K d.1),(P.defs.drop 26).map (λd=>chFn K d.1),P.cons.all (AV K mainGlobals)&&(P.dR.all (AW K)&&A1 P K hp),P.tabs.map (λd=>AX K d.1 d.2),P.cls.map (λd=>AZ K P.flds d.1))
def En(P:Pg)(w:World):Vj:=((P.defs.take 26).map (λd=>some (kf d.1 d.2)),(P.defs.drop 26).map (λd=>some (kf d.1 d.2)),true,P.tabs.map (λd=>tQ w.params d.2),P.cls.map (λd=>tV P.flds d.1 d.2))
def IA{P:Pg}{w:World}{K:W.Frag}(Vh:P.defs.all (λd=>Pb d.2)=true)(ZH:GA P)(Lm:P.cls.all (λd=>Pb d.2)=true)(Ln:Pc P){hp:Heap}(h:Em P K hp=En P w):K9 P w K/\nA K hp:=by
 unfold Em En at h;simp only[tK]at h;obtain⟨e,g,b,i,j⟩:=h;rw[aY,aY]at b;obtain⟨k,l,m⟩:=Ll b.2.2;refine⟨⟨λd hd=>?_,λd hd=>Lb (ir.mp b.1 d hd),λx o=>Ld (ir.mp b.2.1 x o),λd hd=>Lh (mO.mp i d hd),λd hd=>Lk (ir.mp Lm d hd) Ln hd (mO.mp j d hd),l,m⟩,k⟩
 obtain⟨f,p,a,F⟩:=Pa (by
  have c:=hd;rw[<-DW 26 P.defs]at c;rcases bB.mp c with z | z
  ·exact mO.mp e d z
  ·exact mO.mp g d z)
 exact⟨⟨f,p,a,F,λq r=>Vg ZH hd F q r⟩,Lj (ir.mp Vh d hd)⟩
def jy{c d e:Type}{o:Option c}{f:c->d}{g:c->e}{a:d}{b:e}(h1:o.map f=some a)(i:o.map g=some b):o.map (λs=>(f s,g s))=some (a,b):=by
 cases o with
 | none=>cases h1
 | some s=>cases h1;cases i;rfl
def Pe(P:Pg)(Vh:P.defs.all (λd=>Pb d.2)=true)(ZH:GA P)(Lm:P.cls.all (λd=>Pb d.2)=true)(Ln:Pc P):W.Hook :=
 ⟨Vj,λs=>Em P (gd s.heap) s.heap,λw=>En P w,λw h=>∃K:W.Frag,K.In h/\K9 P w K/\nA K h,λw s e=>⟨_,pV _ _,IA Vh ZH Lm Ln e⟩,λ_ _ _ ⟨K,a,b,c⟩ k=>⟨K,a.keeps k,b,c.keeps k⟩⟩
noncomputable def jz(p:Program)(c:String)(b:Bool)(N:Nat)(w:World):Option Shared:=(W.fencedOpening treeTable p w N).bind λa=>W.topFrom treeTable p (w.withFollow c b) N a
def IB{p q:Program}{loose:List Str}{Xt:Shared->Bool}{c:Type}{Yf:Shared->c}{Ya:World->c}{N:Nat}{b:Bool}(a:String)
  (h1:∀w,(jz p a false N w).map (W.openSeen q loose (importedModules p.main.body) Xt b)=some (W.openGood q loose)) (k:∀w,(jz p a true N w).map (W.openSeen q loose (importedModules p.main.body) Xt b)=some (W.openGood q loose))
  (l:∀w,(jz p a false N w).map Yf=some (Ya (w.withFollow a false))) (m:∀w,(jz p a true N w).map Yf=some (Ya (w.withFollow a true))):W.LeftO p q loose Xt Yf Ya N b:=by
 refine W.LeftO.of_split a λw=>?_
 obtain⟨u,d,o⟩:=sU.mp (h1 w);obtain⟨v,e,b2⟩:=sU.mp (k w);obtain⟨x,f,r⟩:=sU.mp (l w);obtain⟨y,g,t⟩:=sU.mp (m w);rw[d]at f;rw[e]at g;cases f;cases g;obtain⟨B,i,tA⟩:=sR.mp d;obtain⟨C,j,tB⟩:=sR.mp e;rw[i]at j;cases j;rw[i,iw,tA,tB,iw,iw,o,b2,r,t]
end L2.U
namespace b9
open PySem L2 L2.U
noncomputable def top(i:Nat):Stmt:=PySem.Challenge.pw_lendrule_k31_all_that_is_held_is_told.main.body.getD i (.Pass ⟨0,0,0,0⟩)
def inC(i j:Nat):Stmt:=match top i with | .ClassDef _ _ _ b _ _ _ _ _ _ _=>b.getD j (.Pass ⟨0,0,0,0⟩) | s=>s
abbrev Lo:Stmt:=inC 59 0
noncomputable def jU:List (Str×Str):=[("put","put_acts"),("set","set_acts"),("fill","put_acts"),("copy","copy_acts"),("move","move_acts"),("drop","drop_acts"),("lend","lend_acts"),("sole","lend_acts"),("call","call_acts"),("if","if_acts"),("go","go_acts"),("say","say_acts"),("give","give_acts")]
def txt:Pg where
 defs:=([("leaves",5),("check_part",6),("part",7),("first",8),("is_copied",9),("kind_of",12),("is_holder",13),("shape_of",14),("spread",16),("tell_new",17),("row_nexts",29),("acts",30),("nexts",31),("come_to",32),("arrivals",33),("touched",34),("touches",35),("is_lending",36),("is_of_call",37),("touch",38),("touch_whole",39),("at_acts",40),("operand_acts",41),("target_acts",42),("put_acts",43),("set_acts",44),("copy_acts",45),("move_acts",46),("drop_acts",47),("lend_acts",48),("call_acts",49),("arg_act",50),("owner_act",51),("if_acts",52),("go_acts",53),("say_acts",54),("give_acts",55),("held",58),("source_holders",60),("count_leaves_of",61),("held_at_first",62),("newly_lent",63),("is_through",64),("held_behind",65),("passed_on",66),("leaves_given",67),("_law_cell_at",69),("_law_mixed",70),("_law_names",71),("_law_shape",72),("_law_leaves",73),("_law_parts",74),("_law_lets",75),("_law_spots",76),("_law_numbers",77),("_law_operand",78),("_law_carried",79),("_law_lending",80),("_law_call",81),("_law_small_row",82),("_law_row",83),("_law_program",84),("_law_whole",85),("_law_sources",86),("_law_is_fact",87),("_law_begun",88),("_law_own",89),("_law_on",90),("_law_right",91),("law",92)]:List (String×Nat)).map λd=>(d.1,top d.2)
 cons:=[("HOLDER_WORDS",.aq [(.str "lent"),(.str "sole")]),("ROW",.int 0),("ACT",.int 1),("NAME",.int 2),("THROUGH",.int 3),("FIRST",.int 4),("MANY",.int 5),("TAKER",.int 6),("REST",.aq [(.str "rest"),(.str ""),(.bl false),(.int 0),(.int 0),(.str "")]),("HAND",.aq [(.str "hand"),(.str ""),(.bl false),(.int 0),(.int 0),(.str "")]),("LENDING",.aq [(.str "lend"),(.str "sole")])]
 dR:=["bool","dict","enumerate","int","isinstance","len","list","range","set","sorted","str","sum","tuple"]
 tabs:=[("MAKERS",jU)]
 cls:=[("Course",Lo)]
 flds:=["function","listed","follow","sources"]
 pU:=["arrivals","held"]
 ZC:=[("leaves",[("told",1)]),("spread",[("known",10),("told",1)]),("tell_new",[("known",10),("told",1)]),("acts",[("told",1)]),("nexts",[("firsts",1),("told",1)]),("call_acts",[("told",1)]),("held",[("firsts",1)]),("held_at_first",[("told",1),("[return]",1)]),("newly_lent",[("told",1)]),("held_behind",[("stands",1),("told",1)]),("_law_names",[("_law_named",1)]),("_law_lets",[("_law_lets_here",1)]),("_law_spots",[("_law_found",1)]),("_law_numbers",[("_law_found",1)]),("_law_call",[("_law_args",1)]),("_law_program",[("_law_params",1),("_law_heads",1)]),("_law_begun",[("_law_known",10)]),("_law_own",[("_law_known",10)]),("_law_on",[("_law_some",1)]),("_law_right",[("_law_known",10),("_law_come",1)])]
section
end
theorem rQ{b a c:Type}{E:Option b}{l:List a}{f:b->a->c}{g:a->c}(n:Nat)(h1:E.map (λs=>(l.take n).map (f s))=some ((l.take n).map g))(d:E.map (λs=>(l.drop n).map (f s))=some ((l.drop n).map g)):E.map (λs=>l.map (f s))=some (l.map g):=by
 cases E with
 | none=>cases h1
 | some s=>exact dO some (show l.map (f s)=l.map g by rw[<-DW n l,bU,bU,show(l.take n).map (f s)=_ from cL h1,show(l.drop n).map (f s)=_ from cL d])
theorem Vh:txt.defs.all (λd=>Pb d.2)=true:=by kernel_rfl
theorem ZH:GA txt:=by
 intro kV a b c d ct u;kernel_rfl
theorem Lm:txt.cls.all (λd=>Pb d.2)=true:=by kernel_rfl
theorem Ln:Pc txt:=by
 intro kV a b c d ct u;kernel_rfl
noncomputable def qv:Program:=W.view (W.OpenLaw.prog PySem.Challenge.rw_lendrule_k31_all_that_is_held_is_told) [92]
noncomputable def lo:List Str:=(W.OpenLaw.prog PySem.Challenge.rw_lendrule_k31_all_that_is_held_is_told).boundNames.filter (· != "law")
def Xt(s:Shared):Bool:=W.xlAt qv [] s&&W.recOk (W.RowW.records (W.OpenRow.toRowW (W.OpenLaw.row PySem.Challenge.rw_lendrule_k31_all_that_is_held_is_told))) s
abbrev hk:W.Hook:=Pe txt Vh ZH Lm Ln
theorem kq1(w:World):(jz (W.OpenLaw.prog PySem.Challenge.rw_lendrule_k31_all_that_is_held_is_told) "special-get-raises" false 5000 w).map (W.openSeen qv lo (importedModules (W.OpenLaw.prog PySem.Challenge.rw_lendrule_k31_all_that_is_held_is_told).main.body) Xt true)=some (W.openGood qv lo):=by kernel_rfl
theorem kq2(w:World):(jz (W.OpenLaw.prog PySem.Challenge.rw_lendrule_k31_all_that_is_held_is_told) "special-get-raises" true 5000 w).map (W.openSeen qv lo (importedModules (W.OpenLaw.prog PySem.Challenge.rw_lendrule_k31_all_that_is_held_is_told).main.body) Xt true)=some (W.openGood qv lo):=by kernel_rfl
theorem ZI(w:World):(jz (W.OpenLaw.prog PySem.Challenge.rw_lendrule_k31_all_that_is_held_is_told) "special-get-raises" false 5000 w).map (λs:Shared=>(txt.defs.take 26).map (λd=>chFn (gd s.heap) d.1))=some ((txt.defs.take 26).map (λd=>some (kf d.1 d.2))):=by kernel_rfl
theorem Vk(w:World):(jz (W.OpenLaw.prog PySem.Challenge.rw_lendrule_k31_all_that_is_held_is_told) "special-get-raises" false 5000 w).map (λs:Shared=>((txt.defs.drop 26).take 20).map (λd=>chFn (gd s.heap) d.1))=some (((txt.defs.drop 26).take 20).map (λd=>some (kf d.1 d.2))):=by kernel_rfl
theorem Vl(w:World):(jz (W.OpenLaw.prog PySem.Challenge.rw_lendrule_k31_all_that_is_held_is_told) "special-get-raises" false 5000 w).map (λs:Shared=>(((txt.defs.drop 26).drop 20).take 13).map (λd=>chFn (gd s.heap) d.1))=some ((((txt.defs.drop 26).drop 20).take 13).map (λd=>some (kf d.1 d.2))):=by kernel_rfl
theorem Vm(w:World):(jz (W.OpenLaw.prog PySem.Challenge.rw_lendrule_k31_all_that_is_held_is_told) "special-get-raises" false 5000 w).map (λs:Shared=>(((txt.defs.drop 26).drop 20).drop 13).map (λd=>chFn (gd s.heap) d.1))=some ((((txt.defs.drop 26).drop 20).drop 13).map (λd=>some (kf d.1 d.2))):=by kernel_rfl
theorem Vn(w:World):(jz (W.OpenLaw.prog PySem.Challenge.rw_lendrule_k31_all_that_is_held_is_told) "special-get-raises" false 5000 w).map (λs:Shared=>txt.cons.all (AV (gd s.heap) mainGlobals)&&(txt.dR.all (AW (gd s.heap))&&A1 txt (gd s.heap) s.heap))=some true:=by kernel_rfl
theorem Vo(w:World):(jz (W.OpenLaw.prog PySem.Challenge.rw_lendrule_k31_all_that_is_held_is_told) "special-get-raises" false 5000 w).map (λs:Shared=>(txt.tabs.map (λd=>AX (gd s.heap) d.1 d.2),txt.cls.map (λd=>AZ (gd s.heap) txt.flds d.1)))=some (txt.tabs.map (λd=>tQ (w.withFollow "special-get-raises" false).params d.2),txt.cls.map (λd=>tV txt.flds d.1 d.2)):=by kernel_rfl
theorem kq3(w:World):(jz (W.OpenLaw.prog PySem.Challenge.rw_lendrule_k31_all_that_is_held_is_told) "special-get-raises" false 5000 w).map (W.Hook.obs hk)=some (W.Hook.val hk (w.withFollow "special-get-raises" false)):=jy (ZI w) (jy (rQ 20 (Vk w) (rQ 13 (Vl w) (Vm w))) (jy (Vn w) (Vo w)))
theorem ZJ(w:World):(jz (W.OpenLaw.prog PySem.Challenge.rw_lendrule_k31_all_that_is_held_is_told) "special-get-raises" true 5000 w).map (λs:Shared=>(txt.defs.take 26).map (λd=>chFn (gd s.heap) d.1))=some ((txt.defs.take 26).map (λd=>some (kf d.1 d.2))):=by kernel_rfl
theorem Vp(w:World):(jz (W.OpenLaw.prog PySem.Challenge.rw_lendrule_k31_all_that_is_held_is_told) "special-get-raises" true 5000 w).map (λs:Shared=>((txt.defs.drop 26).take 20).map (λd=>chFn (gd s.heap) d.1))=some (((txt.defs.drop 26).take 20).map (λd=>some (kf d.1 d.2))):=by kernel_rfl
theorem Vq(w:World):(jz (W.OpenLaw.prog PySem.Challenge.rw_lendrule_k31_all_that_is_held_is_told) "special-get-raises" true 5000 w).map (λs:Shared=>(((txt.defs.drop 26).drop 20).take 13).map (λd=>chFn (gd s.heap) d.1))=some ((((txt.defs.drop 26).drop 20).take 13).map (λd=>some (kf d.1 d.2))):=by kernel_rfl
theorem Vr(w:World):(jz (W.OpenLaw.prog PySem.Challenge.rw_lendrule_k31_all_that_is_held_is_told) "special-get-raises" true 5000 w).map (λs:Shared=>(((txt.defs.drop 26).drop 20).drop 13).map (λd=>chFn (gd s.heap) d.1))=some ((((txt.defs.drop 26).drop 20).drop 13).map (λd=>some (kf d.1 d.2))):=by kernel_rfl
theorem Vs(w:World):(jz (W.OpenLaw.prog PySem.Challenge.rw_lendrule_k31_all_that_is_held_is_told) "special-get-raises" true 5000 w).map (λs:Shared=>txt.cons.all (AV (gd s.heap) mainGlobals)&&(txt.dR.all (AW (gd s.heap))&&A1 txt (gd s.heap) s.heap))=some true:=by kernel_rfl
theorem Vt(w:World):(jz (W.OpenLaw.prog PySem.Challenge.rw_lendrule_k31_all_that_is_held_is_told) "special-get-raises" true 5000 w).map (λs:Shared=>(txt.tabs.map (λd=>AX (gd s.heap) d.1 d.2),txt.cls.map (λd=>AZ (gd s.heap) txt.flds d.1)))=some (txt.tabs.map (λd=>tQ (w.withFollow "special-get-raises" true).params d.2),txt.cls.map (λd=>tV txt.flds d.1 d.2)):=by kernel_rfl
theorem kq4(w:World):(jz (W.OpenLaw.prog PySem.Challenge.rw_lendrule_k31_all_that_is_held_is_told) "special-get-raises" true 5000 w).map (W.Hook.obs hk)=some (W.Hook.val hk (w.withFollow "special-get-raises" true)):=jy (ZJ w) (jy (rQ 20 (Vp w) (rQ 13 (Vq w) (Vr w))) (jy (Vs w) (Vt w)))
theorem ws:W.OpenLaw.wellSaid PySem.Challenge.rw_lendrule_k31_all_that_is_held_is_told=true:=by kernel_rfl
end b9
open PySem PySem.W PyProof.Rows PySem.Calls
set_option maxRecDepth 100000 in
set_option maxHeartbeats 0 in
theorem b9.fin(hc:∀d:DefRec,d.name="law"->d.params.defaults=[]->W.WalkO b9.qv b9.lo (XL b9.qv []) (Hook.says b9.hk) (W.OpenRow.toRowW (W.OpenLaw.row PySem.Challenge.rw_lendrule_k31_all_that_is_held_is_told)) d [] (λf vs=>PySem.call f vs)):PySem.Challenge.rw_lendrule_k31_all_that_is_held_is_told.Holds:=by
 w_on;refine W.holds_law b9.ws λa=>?_
 refine W.holds_open (q:=b9.qv) (loose:=b9.lo) (Xt:=b9.Xt) (XP:=XL b9.qv []) (Yf:=Hook.obs b9.hk) (Ya:=Hook.val b9.hk) (YP:=Hook.says b9.hk) (N:=5000) (L2.U.IB "special-get-raises" b9.kq1 b9.kq2 b9.kq3 b9.kq4) (Hook.of _) (Hook.keeps _) (λs e=>xl_of s (gQ.mp e).1) XL.keeps (by rfl) (by rfl) (by rfl) (λs e=>recFacts_of (gQ.mp e).2) (by rfl) (by first | assumption | decide +kernel) (by decide +kernel) ⟨rfl,rfl,rfl,rfl,rfl,by decide +kernel⟩ ?hw (hc _ rfl rfl)
 case hw=>w_witness2
end
namespace L2
open PySem PySem.Spec PyProof.Rows
noncomputable def wQ:bO->Value->Bool
 | .inl k,v=>Value.isInt k v
 | .inr x,v=>Value.isStrOf x v
def aed(w:World):bO->Int
 | .inl k=>hashInt k
 | .inr x=>hashStr w x
theorem dv:∀{k:bO} {v:Value},wQ k v=true->(∃i t,k=Sum.inl i/\v=Value.int i t)\/(∃x t,k=Sum.inr x/\v=Value.str x t)
 | .inl i,v,h=>by
  obtain⟨t,e⟩:=Value.isInt_shape h;exact .inl ⟨i,t,rfl,e⟩
 | .inr x,v,h=>by
  obtain⟨t,e⟩:=Value.isStrOf_shape h;exact .inr ⟨x,t,rfl,e⟩
def IC(i:Int)(t:Tok):wQ (.inl i) (.int i t)=true:=by simp[wQ,Value.isInt]
def ID(x:Str)(t:Tok):wQ (.inr x) (.str x t)=true:=by simp[wQ,Value.isStrOf]
def Vu(a b:Int):decide ((Sum.inl a:bO)=Sum.inl b)=(a==b):=by
 grind
def Vv(a b:Str):decide ((Sum.inr a:bO)=Sum.inr b)=decide (a=b):=by
 grind
def Vw(a:Int)(b:Str):decide ((Sum.inl a:bO)=Sum.inr b)=false:=by grind
def Vx(a:Str)(b:Int):decide ((Sum.inr a:bO)=Sum.inl b)=false:=by grind
def ez(prog:Program)(w:World):PySem.KeyKind prog w bO where
 is:=wQ
 hash:=aed w
 inj:=λv a b f d=>by
  rcases dv f with⟨i,t,rfl,rfl⟩ | ⟨x,t,rfl,rfl⟩
  ·rcases dv d with⟨j,u,rfl,e⟩ | ⟨y,u,rfl,e⟩
   ·injection e with e1 _;rw[e1]
   ·exact nomatch e
  ·rcases dv d with⟨j,u,rfl,e⟩ | ⟨y,u,rfl,e⟩
   ·exact nomatch e
   ·injection e with e1 _;rw[e1]
 byValue:=λk v h=>by
  rcases dv h with⟨i,t,rfl,rfl⟩ | ⟨x,t,rfl,rfl⟩<;>rfl
 pyHash:=λc h=>by
  rcases dv c with⟨i,t,rfl,rfl⟩ | ⟨x,t,rfl,rfl⟩
  ·exact wpAny_pyHash_int h
  ·exact wpAny_pyHash_str h
 eqBool:=λg c h=>by
  rcases dv g with⟨i,t,rfl,rfl⟩ | ⟨x,t,rfl,rfl⟩
  ·rcases dv c with⟨j,u,rfl,rfl⟩ | ⟨y,u,rfl,rfl⟩
   ·rw[Vu]at h;exact wpAny_eqBool_int h
   ·rw[Vw]at h;exact SeqAt.EqAt.int_str i t y u _ _ _ _ h
  ·rcases dv c with⟨j,u,rfl,rfl⟩ | ⟨y,u,rfl,rfl⟩
   ·rw[Vx]at h;exact SeqAt.EqAt.str_int x t j u _ _ _ _ h
   ·rw[Vv]at h;exact wpAny_eqBool_str h
 «strs» := λk x t v h=>by
  rcases dv h with⟨i,u,rfl,e⟩ | ⟨y,u,rfl,e⟩
  ·exact nomatch e
  ·injection e with e1 _
   subst e1;cases v<;>rfl
def A3(prog:Program)(w:World)(i:Int)(t:Tok):(ez prog w).is (.inl i) (.int i t)=true:=IC i t
def A4(prog:Program)(w:World)(x:Str)(t:Tok):(ez prog w).is (.inr x) (.str x t)=true:=ID x t
def Vals.length(r:Vals xs us):xs.length=us.length:=pM r
theorem Vals.get:∀{xs:List V} {us:List Value} {i:Nat} {x:V},Vals xs us->xs[i]?=some x->∃u,us[i]?=some u/\RelV x u
 | _,_,_,_,.nil,e=>by simp at e
 | _,_,0,_,.cons r _,e=>by grind
 | _,_,i+1,x,.cons _ t,e=>by
  obtain⟨u,b,a⟩:=Vals.get t (by simpa using e)
  exact⟨u,by grind,a⟩
theorem Vals.set(r:RelV x u):∀{xs:List V} {us:List Value} (i:Nat),Vals xs us->Vals (xs.set i x) (us.set i u)
 | _,_,_,.nil=>.nil
 | _,_,0,.cons _ t=>.cons r t
 | _,_,i+1,.cons q t=>.cons q (Vals.set r i t)
theorem Vals.append:∀{xs a:List V} {us ws:List Value},Vals xs us->Vals a ws->Vals (xs++a) (us++ws)
 | _,_,_,_,.nil,s=>s
 | _,_,_,_,.cons r t,s=>.cons r (Vals.append t s)
theorem Vals.take:∀{xs:List V} {us:List Value} (n:Nat),Vals xs us->Vals (xs.take n) (us.take n)
 | _,_,0,_=>.nil
 | _,_,_+1,.nil=>.nil
 | _,_,n+1,.cons r t=>.cons r (Vals.take n t)
theorem Vals.drop:∀{xs:List V} {us:List Value} (n:Nat),Vals xs us->Vals (xs.drop n) (us.drop n)
 | _,_,0,r=>r
 | _,_,_+1,.nil=>.nil
 | _,_,n+1,.cons _ t=>Vals.drop n t
def tW:Option V->Option Value->Prop
 | some v,some u=>RelV v u
 | none,none=>True
 | _,_=>False
def KV{a:Type}:List (a×V)->List (a×Value)->Prop:=Paired fun(p:a×V) (q:a×Value)=>p.1=q.1/\RelV p.2 q.2
noncomputable def dj(H:Hp)(a:Addr)(o:HO):Hp:=λb=>if b=a then some o else H b
def aK:dj H a o a=some o:=by unfold dj;rw[if_pos rfl]
def aZ(h:b≠a):dj H a o b=H b:=by unfold dj;rw[if_neg h]
def cV{H:Hp}{a b:Addr}{o:HO}(h:H a=some o)(h':H b=none):a≠b:=by
 grind
section
variable (P:Program) (w:World)
def gB(H:Hp)(h:Heap)(a:Addr):HO->Prop
 | .lst xs=>xs.length<=sizeLine/\∃(d:List Value) (n:Nat),Vals xs d/\h.get? a=some {cls:=.type "list",data:=.seq d.toArray n}
 | .aq xs=>xs.length<=sizeLine/\∃d:List Value,Vals xs d/\IsTup h a d.toArray
 | .dK e=>e.length<=sizeLine/\(a==sysModules)=false/\∃g,KV e g/\h.DictOf (ez P w) a g
 | .dT xs=>xs.length<=sizeLine/\(a==sysModules)=false/\∃o k y,h.get? a=some o/\o.ExactDict/\o.data=.dict k y/\k.toList=xs.map (entryOfKey (tupleKind (ez P w)))/\(xs.map (·.1)).Nodup
 | .set S n=>h.SetOf (intKind P w) a S n
 | .kP C i fs=>H i=some (.own a)/\fs.length<=1000/\i≠a/\h.get? a=some (W.instObj C i) /\
   ∃b,h.Ns1 i b/\(∀f,tW (fs.lookup f) (b f))/\PySem.Within b (fs.map (·.1))
 | .own _=>∃o,h.get? a=some o
 | .xd fs=>∃b,h.Ns1 a b/\∀f,tW (fs.lookup f) (b f)
 | .rng lo B=>∃t u v,h.get? a=some {cls:=.type "range",data:=.fields #[.int lo t,.int B u,.int 1 v]}
 | .qy o u=>h.get? a=some o/\gB H h a u
 | .Eh q=>∃ps:Array Value,h.get? a=some {cls:=.none,data:=.fields ps}/\TriplesOk ps.toList/\∀(pos:Pos) (l:Value),codeAmong pos ps.toList=some l ->
   ∃(c:Addr) (m:Obj) (u:HO) (g:Array Value) (t:Tok),l=.ref c/\H c=some (.qy m u)/\m.data=.fields g/\g[1]?=some (.str q t)
 | .met f x=>h.get? a=some (W.methodObj (.ref f) (.ref x))
 | .ext j=>j h/\(∃o,h.get? a=some o)/\∀p r:Heap,j p->(∀o,p.get? a=some o->r.get? a=some o)->j r
def mU(H:Hp)(h:Heap):Prop:=∀a o,H a=some o->gB P w H h a o
end
section
variable {P:Program} {w:World} {H H':Hp} {h h':Heap} {a:Addr} {o:HO}
def gB.lt(x:gB P w H h a o):a<h.objs.size:=by
 cases o with
 | lst xs=>obtain⟨_,_,_,_,e⟩:=x;exact br e
 | aq xs=>obtain⟨_,_,_,p⟩:=x;exact p.lt
 | dK b=>obtain⟨_,_,_,_,o,_,_,e,_⟩:=x;exact br e
 | dT b=>obtain⟨_,_,o,_,_,e,_⟩:=x;exact br e
 | set S n=>obtain⟨o,_,_,_,e,_⟩:=x;exact br e
 | kP C c fs=>obtain⟨_,_,_,e,_⟩:=x;exact br e
 | own y=>obtain⟨_,e⟩:=x;exact br e
 | xd fs=>obtain⟨_,⟨_,_,_,e,_⟩,_⟩:=x;exact br e
 | rng lo d=>obtain⟨_,_,_,e⟩:=x;exact br e
 | qy g u=>obtain⟨e,_⟩:=x;exact br e
 | Eh q=>obtain⟨_,e,_⟩:=x;exact br e
 | met f y=>exact br (x)
 | ext i=>obtain⟨_,⟨_,e⟩,_⟩:=x;exact br e
def gB.yH(x:gB P w H h a o)(k:∀b u,(b=a\/H b=some (.own a))->h.get? b=some u->h'.get? b=some u)
  (ho:∀b,H b=some (.own a)->H' b=some (.own a)) (ht:∀b xs,H b=some (.aq xs)->H' b=some (.aq xs)) (J:∀b g u,H b=some (.qy g u)->H' b=some (.qy g u)):gB P w H' h' a o:=by
 induction o with
 | lst xs=>obtain⟨z,l,n,r,e⟩:=x;exact⟨z,l,n,r,k _ _ (.inl rfl) e⟩
 | aq xs=>obtain⟨z,l,r,g,e,c⟩:=x;exact⟨z,l,r,g,k _ _ (.inl rfl) e,c⟩
 | dK m=>obtain⟨z,y,B,r,g,i,j,e,c⟩:=x;exact⟨z,y,B,r,g,i,j,k _ _ (.inl rfl) e,c⟩
 | dT m=>obtain⟨z,y,g,i,j,e,c⟩:=x;exact⟨z,y,g,i,j,k _ _ (.inl rfl) e,c⟩
 | set S n=>obtain⟨g,i,j,t,e,c⟩:=x;exact⟨g,i,j,t,k _ _ (.inl rfl) e,c⟩
 | kP C Y fs =>
  obtain⟨d,z,ne,e,D,⟨E,i,j,L,c⟩,r⟩:=x;exact⟨ho _ d,z,ne,k _ _ (.inl rfl) e,D,⟨E,i,j,k _ _ (.inr d) L,c⟩,r⟩
 | own y=>obtain⟨g,e⟩:=x;exact⟨g,k _ _ (.inl rfl) e⟩
 | xd fs=>obtain⟨D,⟨E,i,j,e,c⟩,r⟩:=x;exact⟨D,⟨E,i,j,k _ _ (.inl rfl) e,c⟩,r⟩
 | rng lo Z=>obtain⟨t,u,v,e⟩:=x;exact⟨t,u,v,k _ _ (.inl rfl) e⟩
 | qy g u ih=>obtain⟨e,q⟩:=x;exact⟨k _ _ (.inl rfl) e,ih q⟩
 | Eh q =>
  obtain⟨ps,e,t,c⟩:=x;exact⟨ps,k _ _ (.inl rfl) e,t,λpos M z=>let ⟨c,N,u,B,Q,R,T,X⟩:=c pos M z;⟨c,N,u,B,Q,R,J _ _ _ T,X⟩⟩
 | met f y =>
  have e:=x;exact k a _ (.inl rfl) e
 | ext φ=>obtain⟨p,⟨o,e⟩,I⟩:=x;exact⟨I _ _ p λo q=>k _ _ (.inl rfl) q,⟨o,k _ _ (.inl rfl) e⟩,I⟩
def mU.lt(x:mU P w H h)(e:H a=some o):a<h.objs.size:=(x a o e).lt
def mU.fresh(x:mU P w H h)(e:h.objs.size<=a):H a=none:=by
 cases q:H a with
 | none=>rfl
 | some u=>exact absurd (b8 (x.lt q) e) (gR _)
def mU.kept(x:mU P w H h)(k:∀b u,h.get? b=some u->h'.get? b=some u):mU P w H h':=λa o e =>
 (x a o e).yH (λb u _ q=>k b u q) (λ_ q=>q) (λ_ _ q=>q) λ_ _ _ q=>q
def mU.laid(x:mU P w H h)(k:∀b u,h.get? b=some u->h'.get? b=some u)(hp:h.objs.size<=a)(d:gB P w (dj H a o) h' a o):mU P w (dj H a o) h':=λb u e=>by
 have f:=x.fresh hp;by_cases g:b=a
 ·subst g;rw[aK]at e;cases e;exact d
 ·rw[aZ g]at e;exact(x b u e).yH (λc v _ q=>k c v q) (λc q=>by rw[aZ (cV q f)];exact q) (λc i q=>by rw[aZ (cV q f)];exact q) λc j v q=>by rw[aZ (cV q f)];exact q
end
def Rd.ok(r:Rd H a u)(x:mU P w H h):gB P w H h a u:=by
 rcases r with r | ⟨o,r⟩
 ·exact x a u r
 ·obtain⟨_,q⟩:=x a _ r;exact q
def Mut:Option HO->Prop
 | some (.lst _)=>True
 | some (.dK _)=>True
 | some (.dT _)=>True
 | some (.set _ _)=>True
 | some (.kP _ _ _)=>True
 | some (.ext _)=>True
 | _=>False
section
variable {P:Program} {w:World} {H:Hp} {h h':Heap} {x e:Addr} {o':HO}
def mU.write(ok:mU P w H h)(a:Mut (H x))(he:e=x\/H e=some (.own x))(k:∀b u,b≠e->h.get? b=some u->h'.get? b=some u)(t:∃u,h'.get? e=some u)
  (j:gB P w (dj H x o') h' x o'):mU P w (dj H x o') h':=λb u q=>by
 have o:∀c y,H c=some (.own y)->c≠x:=λc y r z=>by subst z;rw[r]at a;exact a
 have l:∀c d,H c=some (.aq d)->c≠x:=λc d r z=>by subst z;rw[r]at a;exact a
 have m:∀c f v,H c=some (.qy f v)->c≠x:=λc f v r z=>by subst z;rw[r]at a;exact a
 by_cases g:b=x
 ·subst g;rw[aK]at q;cases q;exact j
 ·rw[aZ g]at q;by_cases i:b=e
  ·have p:H b=some (.own x):=by
    rcases he with z | z
    ·exact absurd (i.trans z) g
    ·rw[i];exact z
   rw[q]at p;cases p;obtain⟨v,B⟩:=t;exact⟨v,by rw[i];exact B⟩
  ·refine(ok b u q).yH (λc v hc r=>k c v ?_ r) (λc r=>by rw[aZ (o c b r)];exact r) (λc d r=>by rw[aZ (l c d r)];exact r) λc f v r=>by rw[aZ (m c f v r)];exact r
   rcases hc with rfl | hc
   ·exact i
   ·rintro rfl
    rcases he with z | z
    ·exact o c b hc z
    ·rw[hc]at z;cases z;exact g rfl
end
structure Un (fs ex:List Addr) (H H':Hp) (h h':Heap):Prop where
 keep:∀b o,h.get? b=some o->H b=none->b∉fs->b∉ex->h'.get? b=some o
 slot:∀b o,h.get? b=some o->H b=none->b∈fs->b∉ex->∃sl,h'.get? b=some {o with slots:=sl}
 free:∀b o,h.get? b=some o->H b=none->b∉ex->H' b=none
 there:∀b o,h.get? b=some o->b∉ex->∃o',h'.get? b=some o'
 tups:∀b xs,H b=some (.aq xs)->H' b=some (.aq xs)
 frzs:∀b o u,H b=some (.qy o u)->H' b=some (.qy o u)
 tbls:∀b q,H b=some (.Eh q)->H' b=some (.Eh q)
section
variable {fs yI ex ex':List Addr} {H H1 H2:Hp} {h h1 h2 h':Heap} {a x e:Addr} {o:HO}
def Un.any(u:Un fs ex H H1 h h1)(q:h.get? b=some c)(n:H b=none)(d:b∉ex):∃g,h1.get? b=some {c with slots:=g}:=by
 by_cases f:b∈fs
 ·exact u.slot b c q n f d
 ·exact⟨c.slots,u.keep b c q n f d⟩
def Un.trans(a:Un fs ex H H1 h h1)(b:Un fs ex H1 H2 h1 h2):Un fs ex H H2 h h2 where
 keep:=λc d q n hc f=>b.keep c d (a.keep c d q n hc f) (a.free c d q n f) hc f
 slot:=λc d q n hc f=>by
  obtain⟨l,e1⟩:=a.slot c d q n hc f;obtain⟨j,k⟩:=b.slot c _ e1 (a.free c d q n f) hc f;exact⟨j,k⟩
 free:=λc d q n f=>by
  obtain⟨i,e1⟩:=a.there c d q f;exact b.free c i e1 (a.free c d q n f) f
 there:=λc d q f=>by
  obtain⟨i,e1⟩:=a.there c d q f;exact b.there c i e1 f
 tups:=λc g q=>b.tups c g (a.tups c g q)
 frzs:=λc d g q=>b.frzs c d g (a.frzs c d g q)
 tbls:=λc q e=>b.tbls c q (a.tbls c q e)
def Un.kept(k:∀b u,h.get? b=some u->h'.get? b=some u):Un fs ex H H h h' :=
 ⟨λb c q _ _ _=>k b c q,λb c q _ _ _=>⟨c.slots,k b c q⟩,λ_ _ _ n _=>n,λb c q _=>⟨c,k b c q⟩,λ_ _ q=>q,λ_ _ _ q=>q,λ_ _ q=>q⟩
def Un.refl:Un fs ex H H h h:=Un.kept λ_ _ q=>q
def Un.laid(k:∀b u,h.get? b=some u->h'.get? b=some u)(hp:h.objs.size<=a)(c:H a=none):Un fs ex H (dj H a o) h h' where
 keep:=λb u q _ _ _=>k b u q
 slot:=λb u q _ _ _=>⟨u.slots,k b u q⟩
 free:=λb u q n _=>by rw[aZ (bL (b8 (br q) hp))];exact n
 there:=λb u q _=>⟨u,k b u q⟩
 tups:=λb d q=>by rw[aZ (cV q c)];exact q
 frzs:=λb u d q=>by rw[aZ (cV q c)];exact q
 tbls:=λb ps q=>by rw[aZ (cV q c)];exact q
def Un.write(c:Mut (H x))(he:e=x\/H e=some (.own x))(k:∀b u,b≠e->h.get? b=some u->h'.get? b=some u)(j:∃u,h'.get? e=some u):Un fs ex H (dj H x o) h h':=by
 have f:∀b,H b=none->b≠x:=λb n z=>by subst z;rw[n]at c;exact c
 have g:∀b,H b=none->b≠e:=λb n z=>by
  subst z;rcases he with r | r
  ·exact f b n r
  ·rw[n]at r;cases r
 have d:∀b u,H b=some u->¬Mut (some u)->b≠x:=λb u q nm z=>by subst z;rw[q]at c;exact nm c
 refine⟨λb u q n _ _=>k b u (g b n) q,λb u q n _ _=>⟨u.slots,k b u (g b n) q⟩,λb u q n _=>by rw[aZ (f b n)];exact n,λb u q _=>?_,
  λb l q=>by rw[aZ (d b _ q λz=>z)];exact q,λb u l q=>by rw[aZ (d b _ q λz=>z)];exact q,λb ps q=>by rw[aZ (d b _ q λz=>z)];exact q⟩
 by_cases i:b=e
 ·subst i;exact j
 ·exact⟨u,k b u i q⟩
end
noncomputable def trk(h:Heap)(H:Hp):List Addr:=(List.range h.objs.size).filter λa=>(H a).isSome
def A5(h:Heap)(H:Hp):Heap:=W.hideAll h (trk h H)
def IE(h:Heap)(H:Hp):(A5 h H).objs.size=h.objs.size:=W.hideAll_size _ _
def hidT_get(e:h.get? b=some o)(n:H b=none):(A5 h H).get? b=some o :=
 W.hideAll_get _ e λa=>by
  have q:=(gC.mp a).2;rw[n]at q;simp at q
def of_hidT(e:(A5 h H).get? b=some o):h.get? b=some o/\H b=none:=by
 have a:=W.of_hideAll (trk h H) e;refine⟨a,?_⟩;cases q:H b with
 | none=>rfl
 | some x =>
  have c:b∈trk h H:=gC.mpr ⟨de.mpr (br a),by simp[q]⟩
  have z:(A5 h H).get? b=none:=W.hideAll_none (trk h H) c;rw[z]at e;cases e
structure Mod (K:W.Frag) (mg:Str->Option Value) (base:Heap):Prop where
 kin:K.In base
 glob:base.Ns mainGlobals mg
 blt:∃mb,base.Ns builtinsNs mb/\∀x:Str,x≠"__name__"->mb x=bootBuiltins x
 nolimit:base.NoLimit
structure Cx where
 prog:Program
 w:World
 K:W.Frag
 mg:Str->Option Value
 base:Heap
 A:Around
 N:List Str
 s₀:Shared
 aa:Hp
 env:Env
 aB:List Env
 stack:List Env
 ex:List Addr
 fn:Str->Bool
 calm:Bool
 pn:List (Addr×Obj)
 xe:Value->Shared->Prop
noncomputable def pW(l:List Env):List Addr:=l.filterMap (·.frame)
abbrev Cx.fs(X:Cx):List Addr:=pW X.aB
def ZM(a:Scope)(x:Str):Prop:=a.names.lookup x=some .local\/a.names.lookup x=some .cell\/a.names.lookup x=some .free
def TC(a:Scope)(x:Str):Prop:=a.names.lookup x=some .local\/a.names.lookup x=some .cell
def aeg(a:Env)(h:Heap)(m:Str->Option Value)(x:Str)(u:Value):Prop :=
 (a.kindOf x=some .local/\m x=some u)\/((a.kindOf x=some .cell\/a.kindOf x=some .free)/\∃c,a.cells.lookup x=some c/\h.IsCell c (some u))
def A6(x:Str):Str:=x++".<locals>."++"<lambda>"
def tY(K:W.Frag)(H:Hp):Prop:=∀x∈dF,∀c T,W.tabIn K x=some (c,T)->H T=some (.Eh (A6 x))
structure Cx.Ok (X:Cx):Prop where
 mod:Mod X.K X.mg X.base
 kind:X.env.scope.kind=.function
 glob:X.env.globals=mainGlobals
 blt:X.env.builtins=builtinsNs
 above:X.s₀.heap.objs.size<=X.env.locals
 inj:∀x y c,X.env.cells.lookup x=some c->X.env.cells.lookup y=some c->x=y
 has:∀x,(X.env.kindOf x=some .cell\/X.env.kindOf x=some .free)->∃c,X.env.cells.lookup x=some c
 cab:∀x c,X.fn x=true->X.env.cells.lookup x=some c->X.s₀.heap.objs.size<=c
 hd:X.calm=true->X.A.handled=none
 frames:X.A.frames=some X.stack
 stk:X.stack=X.aB\/(X.stack=X.env::X.aB/\X.env.frame=some X.env.locals)
 exf:∀b∈X.ex,b≠X.env.locals/\∀x c,X.env.cells.lookup x=some c->c≠b
 bs:∀b o,X.base.get? b=some o->X.s₀.heap.get? b=some o/\X.aa b=none
 bsz:X.base.objs.size<=X.s₀.heap.objs.size
 noex:∀b o,X.base.get? b=some o->b∉X.ex
 exfs:∀b∈X.ex,b∉X.fs
 funs:X.s₀.heap.FunFrames X.base X.aB
 frf:∀b∈X.fs,X.aa b=none
 tabs:tY X.K X.aa
structure Inv (X:Cx) (ae:List (Addr×Obj)) (σ:List (Option V)) (H:Hp) (s:Shared):Prop where
 ok:X.Ok
 os:s.os=X.s₀.os
 bare:AllBare s.gens
 base:Un X.fs X.ex X.aa H X.s₀.heap s.heap
 loc:∃m,s.heap.Ns X.env.locals m/\∀(i:Nat) (x:Str) (v:V),X.N[i]?=some x->σ[i]?=some (some v)->ZM X.env.scope x->∃u,RelV v u/\aeg X.env s.heap m x u
 cell:∀x c,X.env.cells.lookup x=some c->∃v,s.heap.IsCell c v
 free:H X.env.locals=none
 freeC:∀x c,X.env.cells.lookup x=some c->H c=none
 pin:∀p∈X.pn++ae,s.heap.get? p.1=some p.2/\H p.1=none/\p.1≠X.env.locals/\p.1∉X.fs/\∀v,p.2.data≠.cell v
 hok:mU X.prog X.w H s.heap
 len:σ.length=X.N.length
section
variable {X:Cx} {ae:List (Addr×Obj)} {σ:List (Option V)} {H H':Hp} {s:Shared} {h':Heap}
def Cx.Ok.aeh(ok:X.Ok)(e:X.base.get? b=some o):b∉X.fs:=λa=>by
 have:=(ok.funs.mem a).1;rw[e]at this;cases this
def Inv.bs(I:Inv X ae σ H s):∀b o,X.base.get? b=some o->s.heap.get? b=some o/\H b=none:=λb o e =>
 ⟨I.base.keep b o (I.ok.bs b o e).1 (I.ok.bs b o e).2 (I.ok.aeh e) (I.ok.noex b o e),I.base.free b o (I.ok.bs b o e).1 (I.ok.bs b o e).2 (I.ok.noex b o e)⟩
def Inv.bk(I:Inv X ae σ H s):∀b o,X.base.get? b=some o->s.heap.get? b=some o:=λb o e=>(I.bs b o e).1
def Inv.mod(I:Inv X ae σ H s):Mod X.K X.mg X.base:=I.ok.mod
def Inv.tZ(I:Inv X ae σ H s):X.K.In s.heap:=I.ok.mod.kin.keeps I.bk
def Inv.lt(I:Inv X ae σ H s):X.env.locals<s.heap.objs.size:=let ⟨_,a,_⟩:=I.loc;a.lt
def Inv.sz(I:Inv X ae σ H s):X.s₀.heap.objs.size<=s.heap.objs.size:=bC I.ok.above (dN I.lt)
def Inv.aei(I:Inv X ae σ H s){a:Addr}(h:s.heap.objs.size<=a):a∉X.fs:=λb=>by
 obtain⟨_,o,ho,_⟩:=I.ok.funs.mem b;exact absurd (b8 (br ho) (bC I.sz h)) (gR _)
def Inv.Vz(I:Inv X ae σ H s):∀x c,X.env.cells.lookup x=some c->c≠X.env.locals:=λx c e z=>by
 obtain⟨v,o,ho,hd⟩:=I.cell x c e;obtain⟨m,⟨d,f,g,a,b,_⟩,_⟩:=I.loc;rw[z,a]at ho;cases ho;rw[b]at hd;cases hd
def Inv.funs(I:Inv X ae σ H s):s.heap.FunFrames X.base X.aB:=by
 have all:∀l,(∀b∈pW l,b∈X.fs)->X.s₀.heap.FunFrames X.base l->s.heap.FunFrames X.base l:=by
  intro l;induction l with
  | nil=>intro _ _;trivial
  | cons env r ih =>
   intro f g;obtain⟨hk,⟨L,o,a,j,ho,hd⟩,hr⟩:=g;have c:=f L (by unfold pW;rw[s9,a];exact aO)
   obtain⟨k,e⟩:=I.base.slot L o ho (I.ok.frf L c) c λz=>I.ok.exfs L z c
   exact⟨hk,⟨L,_,a,j,e,hd⟩,ih (λb d=>f b (by unfold pW;rw[s9,a];exact aM _ d)) hr⟩
 exact all X.aB (λ_ d=>d) I.ok.funs
def Inv.stack(I:Inv X ae σ H s):s.heap.FunFrames X.base X.stack:=by
 rcases I.ok.stk with e | ⟨e,hf⟩
 ·rw[e];exact I.funs
 ·rw[e];obtain⟨m,a,_⟩:=I.loc;refine .cons (by rw[I.ok.kind];decide) hf a ?_ I.funs
  exact Heap.get?_none_of_le (bC I.ok.bsz I.ok.above)
def Inv.yJ(I:Inv X ae σ H s):∀b∈pW X.stack,b∈X.env.locals::X.fs:=λb a=>by
 rcases I.ok.stk with e | ⟨e,hf⟩
 ·rw[e]at a;exact aM _ a
 ·rw[e]at a;unfold pW at a;rw[s9,hf]at a;exact a
def Inv.yK(I:Inv X ae σ H s):∀b∈pW X.stack,H b=none:=λb a=>by
 rcases aW.mp (I.yJ b a)with e | a
 ·rw[e];exact I.free
 ·obtain⟨_,o,ho,_⟩:=I.ok.funs.mem a;exact I.base.free b o ho (I.ok.frf b a) λz=>I.ok.exfs b z a
def Inv.tabs(I:Inv X ae σ H s):tY X.K H:=λx a c T e=>I.base.tbls T _ (I.ok.tabs x a c T e)
def Inv.step{N:Array GenState}{t':Nat}{R:Drawn}{ch:List Addr}(I:Inv X ae σ H s)
  (E:∀b∈ch,(b∈X.ex\/X.s₀.heap.objs.size<=b)/\b≠X.env.locals/\(∀x c,X.env.cells.lookup x=some c->c≠b)/\∀p∈X.pn++ae,p.1≠b)
  (keep:∀b o,b≠X.env.locals->b∉X.fs->b∉ch->s.heap.get? b=some o->H b=none->h'.get? b=some o)
  (slot:∀b o,b≠X.env.locals->b∈X.fs->b∉ch->s.heap.get? b=some o->H b=none->∃J,h'.get? b=some {o with slots:=J}) (free:∀b o,b∉ch->s.heap.get? b=some o->H b=none->H' b=none)
  (j:∀b o,b∉ch->s.heap.get? b=some o->∃y,h'.get? b=some y)
  (tups:∀b xs,H b=some (.aq xs)->H' b=some (.aq xs)) (frzs:∀b o u,H b=some (.qy o u)->H' b=some (.qy o u)) (B:∀b q,H b=some (.Eh q)->H' b=some (.Eh q))
  (T:∀m,s.heap.Ns X.env.locals m->h'.Ns X.env.locals m) (L:mU X.prog X.w H' h') (Y:AllBare N) :
  Inv X ae σ H' {s with heap:=h',gens:=N,drawn:=R,toks:=t'}:=by
 have C:∀b o,X.s₀.heap.get? b=some o->b≠X.env.locals:=λb o e=>bL (b8 (br e) I.ok.above)
 have g:∀b o,X.s₀.heap.get? b=some o->b∉X.ex->b∉ch:=λb o e a t=>by
  rcases(E b t).1 with z | z
  ·exact a z
  ·exact absurd (b8 (br e) z) (gR _)
 have f:∀x c,X.env.cells.lookup x=some c->∀v,s.heap.IsCell c v->h'.IsCell c v:=by
  rintro x c e v ⟨o,ho,hd⟩
  have D:c∉ch:=by grind
  by_cases hc:c∈X.fs
  ·obtain⟨J,q⟩:=slot c o (I.Vz x c e) hc D ho (I.freeC x c e);exact⟨_,q,hd⟩
  ·exact⟨o,keep c o (I.Vz x c e) hc D ho (I.freeC x c e),hd⟩
 refine⟨I.ok,I.os,Y,⟨λb o e n t a=>?_,λb o e n t a=>?_,λb o e n a=>?_,λb o e a=>?_,λb xs e=>tups b xs (I.base.tups b xs e),λb o xs e=>frzs b o xs (I.base.frzs b o xs e),λb ps e=>?_⟩,?_,λx c e=>?_,?_,λx c e=>?_,λp hp=>?_,L,I.len⟩
 ·exact keep b o (C b o e) t (g b o e a) (I.base.keep b o e n t a) (I.base.free b o e n a)
 ·obtain⟨J,e1⟩:=I.base.slot b o e n t a;obtain⟨Z,M⟩:=slot b _ (C b o e) t (g b o e a) e1 (I.base.free b o e n a);exact⟨Z,M⟩
 ·obtain⟨y,e1⟩:=I.base.there b o e a;exact free b y (g b o e a) e1 (I.base.free b o e n a)
 ·obtain⟨y,e1⟩:=I.base.there b o e a;exact j b y (g b o e a) e1
 ·exact B b ps (I.base.tbls b ps e)
 ·obtain⟨m,hn,hl⟩:=I.loc;refine⟨m,T m hn,λi x v e1 M e3=>?_⟩
  obtain⟨u,r,l⟩:=hl i x v e1 M e3;refine⟨u,r,?_⟩;rcases l with l | ⟨k,c,e,z⟩
  ·exact .inl l
  ·exact .inr ⟨k,c,e,f x c e _ z⟩
 ·obtain⟨v,z⟩:=I.cell x c e;exact⟨v,f x c e v z⟩
 ·obtain⟨m,⟨o,_,_,ho,_⟩,_⟩:=I.loc;exact free _ o (λz=>(E _ z).2.1 rfl) ho I.free
 ·obtain⟨v,o,ho,hd⟩:=I.cell x c e;exact free c o (λz=>(E c z).2.2.1 x c e rfl) ho (I.freeC x c e)
 ·obtain⟨e,n,ne,Q,d⟩:=I.pin p hp;have D:p.1∉ch:=by grind
  exact⟨keep p.1 p.2 ne Q D e n,free p.1 p.2 D e n,ne,Q,d⟩
def Inv.un{t':Nat}(I:Inv X ae σ H s)(u:Un X.fs [] H H' s.heap h')(a:mU X.prog X.w H' h'):Inv X ae σ H' {s with heap:=h',toks:=t'}:=by
 obtain⟨m,⟨o,p,q,ho,r⟩,_⟩:=id I.loc;obtain⟨t,g⟩:=u.any ho I.free (by simp)
 exact I.step (ch:=[]) (λ_ z=>nomatch z) (λb o _ c _ e n=>u.keep b o e n c (by simp)) (λb o _ c _ e n=>u.slot b o e n c (by simp)) (λb o _ e n=>u.free b o e n (by simp)) (λb o _ e=>u.there b o e (by simp)) u.tups u.frzs u.tbls (λy j=>by
  obtain⟨B,k,d,f,l⟩:=j;rw[ho]at f;cases f;exact⟨_,k,d,g,l⟩) a I.bare
def Inv.call{g:Array GenState}{t':Nat}{l:Drawn}{ch:List Addr}(I:Inv X ae σ H s)(u:Un (pW X.stack) ch H H' s.heap h')(a:mU X.prog X.w H' h')(q:AllBare g)
  (j:∀b∈ch,(b∈X.ex\/X.s₀.heap.objs.size<=b)/\b≠X.env.locals/\(∀x c,X.env.cells.lookup x=some c->c≠b)/\∀p∈X.pn++ae,p.1≠b) :
  Inv X ae σ H' {s with heap:=h',gens:=g,drawn:=l,toks:=t'}:=by
 obtain⟨m,⟨o,D,E,ho,r⟩,_⟩:=id I.loc;obtain⟨J,d⟩:=u.any ho I.free λz=>(j _ z).2.1 rfl
 exact I.step j (λb o d t hc e n=>u.keep b o e n (λz=>(aW.mp (I.yJ b z)).elim d t) hc) (λb o _ _ hc e n=>u.any e n hc) (λb o hc e n=>u.free b o e n hc) (λb o hc e=>u.there b o e hc) u.tups u.frzs u.tbls (λL y=>by
  obtain⟨M,B,f,k,C⟩:=y;rw[ho]at k;cases k;exact⟨_,B,f,d,C⟩) a q
def Inv.turned{t':Nat}(I:Inv X ae σ H s)(k:∀b o,b≠it->s.heap.get? b=some o->h'.get? b=some o)(f:H it=none)(a:it≠X.env.locals)
  (h1:it∈X.ex\/X.s₀.heap.objs.size<=it) (g:∀x c,X.env.cells.lookup x=some c->c≠it) (j:∀p∈X.pn++ae,p.1≠it):Inv X ae σ H {s with heap:=h',toks:=t'}:=by
 have d:∀b u,H b=some u->b≠it:=λb u e z=>by rw[z,f]at e;cases e
 refine I.step (ch:=[it]) (λb l=>?_) (λb o _ _ hc e _=>k b o (λz=>hc (by simp[z])) e) (λb o _ _ hc e _=>⟨o.slots,k b o (λz=>hc (by simp[z])) e⟩) (λ_ _ _ _ n=>n)
  (λb o hc e=>⟨o,k b o (λz=>hc (by simp[z])) e⟩) (λ_ _ e=>e) (λ_ _ _ e=>e) (λ_ _ e=>e) (λm t=>?_) (λb u e=>?_) I.bare
 ·have e:b=it:=by simpa using l
  subst e;exact⟨h1,a,g,j⟩
 ·obtain⟨o,w,y,ho,r⟩:=t;exact⟨o,w,y,k _ o (ee a) ho,r⟩
 ·refine(I.hok b u e).yH (λc v hc q=>k c v ?_ q) (λ_ q=>q) (λ_ _ q=>q) λ_ _ _ q=>q
  rcases hc with z | z
  ·rw[z];exact d b u e
  ·exact d c _ z
def Inv.tok(I:Inv X ae σ H s)(t:Nat):Inv X ae σ H {s with toks:=t}:=I.un Un.refl I.hok
def Inv.kept(I:Inv X ae σ H s)(k:∀b u,s.heap.get? b=some u->h'.get? b=some u):Inv X ae σ H {s with heap:=h',toks:=t'}:=I.un (Un.kept k) (I.hok.kept k)
def Inv.laid{a:Addr}{o:HO}{t':Nat}(I:Inv X ae σ H s)(k:∀b u,s.heap.get? b=some u->h'.get? b=some u)(hp:s.heap.objs.size<=a)(c:gB X.prog X.w (dj H a o) h' a o) :
  Inv X ae σ (dj H a o) {s with heap:=h',toks:=t'}:=I.un (Un.laid k hp (I.hok.fresh hp)) (I.hok.laid k hp c)
def Inv.write(I:Inv X ae σ H s)(c:Mut (H x))(he:e=x\/H e=some (.own x))(k:∀b u,b≠e->s.heap.get? b=some u->h'.get? b=some u)(d:∃u,h'.get? e=some u)
  (a:gB X.prog X.w (dj H x o) h' x o):Inv X ae σ (dj H x o) {s with heap:=h',toks:=t'}:=I.un (Un.write c he k d) (I.hok.write c he k d a)
def Inv.nG(I:Inv X ae σ H s)(h:∀p∈a,s.heap.get? p.1=some p.2/\H p.1=none/\p.1≠X.env.locals/\p.1∉X.fs/\∀v,p.2.data≠.cell v):Inv X a σ H s :=
 ⟨I.ok,I.os,I.bare,I.base,I.loc,I.cell,I.free,I.freeC,λp hp=>(bB.mp hp).elim (λz=>I.pin p (fI _ z)) (h p),I.hok,I.len⟩
def A7{N:List Str}(hN:N.Nodup){i j:Nat}(a:N[i]?=some x)(b:N[j]?=some x):i=j:=by
 obtain⟨d,e1⟩:=cS.mp a;obtain⟨e,c⟩:=cS.mp b;exact(List.getElem_inj hN).mp (e1.trans c.symm)
def store_ok2{M:Model}{A:Around}{E:Value->Shared->Prop}{i:Nat}{v:V}{u:Value}{Q:Unit->Shared->Prop}(I:Inv X ae σ H s)(hN:X.N.Nodup)(C:X.N[i]?=some x)(g:TC X.env.scope x)(r:RelV v u)
  (h:∀R,Inv X ae (σ.set i (some v)) H R->(∃a,Heap.SameBut a s.heap R.heap/\(a=X.env.locals\/X.env.cells.lookup x=some a))->Q () R) (hf:X.fn x=true\/X.env.scope.names.lookup x=some .local:=by first | exact .inl rfl | exact .inr rfl | assumption):wpAny M A (storeName X.env x u) Q E s:=by
 obtain⟨m,T,hl⟩:=id I.loc;have Y:(X.env.scope.kind==.class || (X.env.scope.kind==.module&&X.env.locals != X.env.globals))=false:=by rw[I.ok.kind];rfl
 have ZR:i<σ.length:=by rw[I.len];exact(cS.mp C).1
 have Vz:=I.Vz;have GD:∀{a:Addr} {h':Heap},(∃o,s.heap.get? a=some o/\H a=none)->Heap.SameBut a s.heap h'->mU X.prog X.w H h':=λ{a h'} ha f b ob e=>by
  obtain⟨_,_,A8⟩:=ha;refine(I.hok b ob e).yH (λc J hc q=>(f.2 c ?_).trans q) (λ_ q=>q) (λ_ _ q=>q) λ_ _ _ q=>q
  rintro rfl
  rcases hc with rfl | hc
  ·grind
  ·grind
 rcases g with hk | hk
 ·refine wpAny_storeName_local hk T (λh' ZS f=>?_) Y
  obtain⟨oL,_,_,TJ,_⟩:=id T;refine h _ ⟨I.ok,I.os,I.bare,⟨λb o e n t g=>?_,λb o e n t g=>?_,I.base.free,λb o e g=>?_,I.base.tups,I.base.frzs,I.base.tbls⟩,⟨_,ZS,λj y Z e1 l e3=>?_⟩,λy c e=>?_,I.free,I.freeC,λp hp=>?_,GD ⟨oL,TJ,I.free⟩ f,by simpa using I.len⟩ ⟨_,f,.inl rfl⟩
  ·exact(f.2 b (bL (b8 (br e) I.ok.above))).trans (I.base.keep b o e n t g)
  ·obtain⟨sl,e1⟩:=I.base.slot b o e n t g;exact⟨sl,(f.2 b (bL (b8 (br e) I.ok.above))).trans e1⟩
  ·obtain⟨o',e1⟩:=I.base.there b o e g;exact⟨o',(f.2 b (bL (b8 (br e) I.ok.above))).trans e1⟩
  ·by_cases B:j=i
   ·subst B;rw[C]at e1;cases e1;rw[sS ZR]at l;cases l;exact⟨u,r,.inl ⟨hk,by simp⟩⟩
   ·rw[pC (ee B)]at l;obtain⟨u',r',q⟩:=hl j y Z e1 l e3;refine⟨u',r',?_⟩;rcases q with⟨k,e⟩ | ⟨k,c,e,z⟩
    ·refine .inl ⟨k,?_⟩;have:y≠x:=λe=>B (A7 hN e1 (e▸C))
     simp[this,e]
    ·exact .inr ⟨k,c,e,z.sameBut f (Vz y c e)⟩
  ·obtain⟨J,z⟩:=I.cell y c e;exact⟨J,z.sameBut f (Vz y c e)⟩
  ·obtain⟨e,n,ne,nf,d⟩:=I.pin p hp;exact⟨(f.2 p.1 ne).trans e,n,ne,nf,d⟩
 ·have Lp:X.fn x=true:=by
   grind
  obtain⟨c,hc⟩:=I.ok.has x (.inl hk);obtain⟨J,z⟩:=I.cell x c hc;refine wpAny_storeName_cell I.ok.kind hk hc z (λh' GF f=>?_)
  obtain⟨oc,D,aiF⟩:=id z;refine h {s with heap:=h'} ⟨I.ok,I.os,I.bare,⟨λb o e n t g=>?_,λb o e n t g=>?_,I.base.free,λb o e g=>?_,I.base.tups,I.base.frzs,I.base.tbls⟩,⟨m,T.sameBut f (ee (Vz x c hc)),λj y Z e1 l e3=>?_⟩,λy L e=>?_,I.free,I.freeC,λp hp=>?_,GD ⟨oc,D,I.freeC x c hc⟩ f,by simpa using I.len⟩ ⟨c,f,.inr hc⟩
  ·exact(f.2 b (bL (b8 (br e) (I.ok.cab x c Lp hc)))).trans (I.base.keep b o e n t g)
  ·obtain⟨sl,e1⟩:=I.base.slot b o e n t g;exact⟨sl,(f.2 b (bL (b8 (br e) (I.ok.cab x c Lp hc)))).trans e1⟩
  ·obtain⟨o',e1⟩:=I.base.there b o e g;exact⟨o',(f.2 b (bL (b8 (br e) (I.ok.cab x c Lp hc)))).trans e1⟩
  ·by_cases B:j=i
   ·subst B;rw[C]at e1;cases e1;rw[sS ZR]at l;cases l;exact⟨u,r,.inr ⟨.inl hk,c,hc,GF⟩⟩
   ·rw[pC (ee B)]at l;obtain⟨u',r',q⟩:=hl j y Z e1 l e3;refine⟨u',r',?_⟩;rcases q with q | ⟨k,L,e,z'⟩
    ·exact .inl q
    ·refine .inr ⟨k,L,e,z'.sameBut f ?_⟩
     rintro rfl
     exact B (A7 hN e1 (I.ok.inj _ _ _ e hc▸C))
  ·by_cases hcc:L=c
   ·grind
   ·obtain⟨w2,z2⟩:=I.cell y L e;exact⟨w2,z2.sameBut f hcc⟩
  ·obtain⟨e,n,ne,nf,d⟩:=I.pin p hp;refine⟨(f.2 p.1 ?_).trans e,n,ne,nf,d⟩;intro q;rw[q,D]at e;have q':=cL e;exact d J (by grind)
def t7(I:Inv X ae σ H s)(hN:X.N.Nodup)(b:X.N[i]?=some x)(c:TC X.env.scope x)(r:RelV v u)
  (h:∀a,Inv X ae (σ.set i (some v)) H a->Q () a) (d:X.fn x=true\/X.env.scope.names.lookup x=some .local:=by first | exact .inl rfl | exact .inr rfl | assumption):wpAny M A (storeName X.env x u) Q E s :=
 store_ok2 I hN b c r (λa e _=>h a e) d
def Inv.TK(I:Inv X ae σ H s)(ho:a.os=s.os)(u:Un (pW X.stack) ch H H' s.heap a.heap)(d:mU X.prog X.w H' a.heap)(f:AllBare a.gens)
  (g:∀b∈ch,(b∈X.ex\/X.s₀.heap.objs.size<=b)/\b≠X.env.locals/\(∀x c,X.env.cells.lookup x=some c->c≠b)/\∀p∈X.pn++ae,p.1≠b):Inv X ae σ H' a:=by
 obtain⟨h',j,k,l,m⟩:=a;have e:=ho;subst e;exact I.call u d f g
end
abbrev XK:=Value->Option Addr->Hp->Prop
abbrev St:=List (Option V)
abbrev VK:=V->Hp->Prop
abbrev TE:=St->Hp->VK->Prop
abbrev TT:=St->Hp->(Bool->Hp->Prop)->Prop
abbrev TA:=St->Hp->(List V->Hp->Prop)->Prop
structure Eo where
 nx:St->Hp->Prop
 rt:VK
 bk:St->Hp->Prop:=λ_ _=>False
 ct:St->Hp->Prop:=λ_ _=>False
abbrev TS:=Eo->St->Hp->Prop
def EP(X:Cx)(b:List (Addr×Obj))(c:St)(Q:VK)(u:Value)(d:Shared):Prop:=∃v a,Inv X b c a d/\RelV v u/\Q v a
def TP(X:Cx)(c:List (Addr×Obj))(d:St)(Q:Bool->Hp->Prop)(b:Bool)(e:Shared):Prop:=∃a,Inv X c d a e/\Q b a
def AP(X:Cx)(c:List (Addr×Obj))(d:St)(Q:List V->Hp->Prop)(e:List Value)(f:Shared):Prop:=∃a b,Inv X c d b f/\Vals a e/\Q a b
def SP(X:Cx)(c:List (Addr×Obj))(D:Eo)(f:Flow)(d:Shared):Prop :=
 match f with
 | .next=>∃b a,Inv X c b a d/\D.nx b a
 | .brk=>∃b a,Inv X c b a d/\D.bk b a
 | .cont=>∃b a,Inv X c b a d/\D.ct b a
 | .ret u=>∃v b a,Inv X c b a d/\RelV v u/\D.rt v a
def PE(X:Cx)(e:Expr)(t:TE):Prop :=
 ∀(a:List (Addr×Obj)) (s:Shared) (σ:St) (H:Hp) (Q:VK),Inv X a σ H s->t σ H Q->wpAny (model X.prog X.w) X.A (eval e X.env) (EP X a σ Q) X.xe s
def PT(X:Cx)(e:Expr)(t:TT):Prop :=
 ∀(a:List (Addr×Obj)) (s:Shared) (σ:St) (H:Hp) (Q:Bool->Hp->Prop),Inv X a σ H s->t σ H Q->wpAny (model X.prog X.w) X.A (isTrue e X.env (eval e X.env)) (TP X a σ Q) X.xe s
def PW(X:Cx)(e:Expr)(t:TT):Prop :=
 ∀(b:Sem Value) (a:List (Addr×Obj)) (s:Shared) (σ:St) (H:Hp) (Q:Bool->Hp->Prop),Inv X a σ H s->t σ H Q->wpAny (model X.prog X.w) X.A (isTrue e X.env b) (TP X a σ Q) X.xe s
def PW.pt(h:PW X e t):PT X e t:=h _
def PA(X:Cx)(b:List Expr)(t:TA):Prop :=
 ∀(pos:Pos) (a:List (Addr×Obj)) (s:Shared) (σ:St) (H:Hp) (Q:List V->Hp->Prop),Inv X a σ H s->t σ H Q->wpAny (model X.prog X.w) X.A (spliced (backTo pos (starEach b X.env))) (AP X a σ Q) X.xe s
def PS(X:Cx)(st:Stmt)(t:TS):Prop :=
 ∀(a:List (Addr×Obj)) (s:Shared) (σ:St) (H:Hp) (D:Eo),Inv X a σ H s->t D σ H->wpAny (model X.prog X.w) X.A (exec st X.env) (SP X a D) X.xe s
def PSs(X:Cx)(st:List Stmt)(t:TS):Prop :=
 ∀(a:List (Addr×Obj)) (s:Shared) (σ:St) (H:Hp) (D:Eo),Inv X a σ H s->t D σ H->wpAny (model X.prog X.w) X.A (execs st X.env) (SP X a D) X.xe s
def thn{b:Type}{t:Sem b}{Q c:b->Shared->Prop}{M:Model}{A:Around}{E:Value->Shared->Prop}(h:wpAny M A t Q E s)(d:∀a s,Q a s->c a s):wpAny M A t c E s:=kM h d λ_ _ x=>x
section
variable {X:Cx}
def bin{a b:Expr}{j k:TE}(m:PE X a j)(o:PE X b k){g:List (Addr×Obj)}{s:Shared}{c:St}{H:Hp}{R:V->V->Hp->Prop}(I:Inv X g c H s)(h:j c H λx i=>k c i λy d=>R x y d)
  {l:Type} {Q:l->Shared->Prop} {f:Value->Value->Sem l}
  (p:∀v u s2 x y d,Inv X g c d s2->RelV x v->RelV y u->R x y d->wpAny (model X.prog X.w) X.A (f v u) Q X.xe s2) :
  wpAny (model X.prog X.w) X.A (eval a X.env) (λv e=>wpAny (model X.prog X.w) X.A (eval b X.env) (λu q=>wpAny (model X.prog X.w) X.A (f v u) Q X.xe q) X.xe e) X.xe s:=by
 refine thn (m g s c H _ I h) λv s1 ⟨x,i,r,t,B⟩=>?_
 refine thn (o g s1 c i _ r B) λu s2 ⟨y,d,C,D,E⟩=>?_
 exact p v u s2 x y d C t D E
def Pf(i:Nat):TE:=λa H Q=>∃v,a[i]?=some (some v)/\Q v H
def tC(v:V):TE:=λ_ H Q=>Q v H
def pe_var{i:Nat}{x:Str}{pos:Pos}(hN:X.N[i]?=some x)(b:ZM X.env.scope x)(hd:(x==("__debug__":Str))=false:=by decide)(d:(x==("__classdict__":Str))=false:=by decide):PE X (.Name x pos) (Pf i):=by
 intro f s g H Q I h;obtain⟨v,e,h⟩:=h;obtain⟨m,j,k⟩:=I.loc;obtain⟨u,r,l⟩:=k i x v hN e b;have fin:EP X f g Q u s:=⟨v,H,I,r,h⟩;rcases l with⟨hk,hm⟩ | ⟨hk,c,hc,a⟩
 ·exact wpAny_Name (wpAny_loadName_local I.ok.kind hk j hm fin) hd
 ·rcases hk with hk | hk
  ·exact wpAny_Name (wpAny_loadName_cell I.ok.kind hk hc a fin) hd
  ·exact wpAny_Name (wpAny_loadName_free I.ok.kind hk hc a fin d) hd
def VA{i j pos}:PE X (.Constant (.int i) j pos) (tC (.int i)):=λ_ _ _ H _ I h=>wpAny_Constant_int ⟨.int i,H,I.tok _,⟨_,rfl⟩,h⟩
def ZT{b j pos}:PE X (.Constant (.bool b) j pos) (tC (.bl b)):=λ_ _ _ H _ I h=>Constant_bool ⟨.bl b,H,I,rfl,h⟩
def VB{j pos}:PE X (.Constant .none j pos) (tC .cf):=λ_ _ _ H _ I h=>Constant_none ⟨.cf,H,I,rfl,h⟩
def VC{x j pos}:PE X (.Constant (.str x) j pos) (tC (.str x)):=λ_ _ _ H _ I h=>Calls.Constant_str ⟨.str x,H,I.tok _,⟨_,rfl⟩,h⟩
def Gl(X:Cx)(x:Str):Prop:=X.env.kindOf x=some .globalImplicit
def ld_glob{E:Value->Shared->Prop}{a:List (Addr×Obj)}{s:Shared}{b:St}{H:Hp}{x:Str}{u:Value}{pos:Pos}{Q:Value->Shared->Prop}(I:Inv X a b H s)(c:Gl X x)(d:X.mg x=some u)(h:Q u s)
  (hd:(x==("__debug__":Str))=false:=by decide):wpAny (model X.prog X.w) X.A (eval (.Name x pos) X.env) Q E s :=
 K3 I.ok.kind c (Calls.loadGlobal_global (by rw[I.ok.glob];exact I.mod.glob.keeps I.bk) d h) hd
def ld_blt{E:Value->Shared->Prop}{a:List (Addr×Obj)}{s:Shared}{b:St}{H:Hp}{x:Str}{u:Value}{pos:Pos}{Q:Value->Shared->Prop}(I:Inv X a b H s)(c:Gl X x)(d:X.mg x=none)(e:bootBuiltins x=some u)(h:Q u s)
  (f:x≠"__name__":=by decide) (hd:(x==("__debug__":Str))=false:=by decide):wpAny (model X.prog X.w) X.A (eval (.Name x pos) X.env) Q E s:=by
 obtain⟨j,g,i⟩:=I.mod.blt;exact K3 I.ok.kind c (Calls.loadGlobal_builtin (by rw[I.ok.glob];exact I.mod.glob.keeps I.bk) d (by rw[I.ok.blt];exact g.keeps I.bk) ((i x f).trans e) h) hd
def GG(a:Gl X x)(b:X.mg x=some u)(r:RelV v u)(hd:(x==("__debug__":Str))=false:=by decide):PE X (.Name x pos) (tC v) :=
 λ_ _ _ H _ I h=>ld_glob I a b ⟨v,H,I,r,h⟩ hd
def Ph{x:Str}{v:V}{u:Value}{pos:Pos}(a:Gl X x)(b:X.mg x=none)(c:bootBuiltins x=some u)(r:RelV v u)(d:x≠"__name__":=by decide)(hd:(x==("__debug__":Str))=false:=by decide):PE X (.Name x pos) (tC v) :=
 λ_ _ _ H _ I h=>ld_blt I a b c ⟨v,H,I,r,h⟩ d hd
variable {a b:Expr} {ta tb:TE} {pos:Pos}
variable {tA tB':TT} {rest:List Expr}
def aem(t u:TT):TT:=λd H Q=>t d H λc e=>if c=true then u d e Q else Q false e
def tOr(t u:TT):TT:=λd H Q=>t d H λc e=>if c=true then Q true e else u d e Q
def aen(t:TT):TT:=λd H Q=>t d H λc e=>Q (!c) e
def Pj(d:PT X a tA):PW X (.BoolOp .And [a] pos) tA:=by
 intro i f s g H Q I h;refine isTrue_and (thn (d f s g H Q I h) λc j e=>?_)
 cases c with
 | true=>exact isTrue_and_nil e
 | false=>exact e
def VD(d:PT X a tA):PW X (.BoolOp .Or [a] pos) tA:=by
 intro i f s g H Q I h;refine isTrue_or (thn (d f s g H Q I h) λc j e=>?_)
 cases c with
 | false=>exact isTrue_or_nil e
 | true=>exact e
def VE(i:PT X a tA)(j:PW X (.BoolOp .And (b::rest) pos) tB'):PW X (.BoolOp .And (a::b::rest) pos) (aem tA tB'):=by
 intro k d s e H Q I h;refine isTrue_and (thn (i d s e H _ I h) λc s1 ⟨H1,f,g⟩=>?_)
 cases c with
 | true=>exact j k d s1 e H1 Q f g
 | false=>exact⟨H1,f,g⟩
def ZU(i:PT X a tA)(j:PW X (.BoolOp .Or (b::rest) pos) tB'):PW X (.BoolOp .Or (a::b::rest) pos) (tOr tA tB'):=by
 intro k d s e H Q I h;refine isTrue_or (thn (i d s e H _ I h) λc s1 ⟨H1,f,g⟩=>?_)
 cases c with
 | true=>exact⟨H1,f,g⟩
 | false=>exact j k d s1 e H1 Q f g
def VF(d:PT X a tA):PT X (.UnaryOp .Not a pos) (aen tA):=by
 intro e s f H Q I h;exact isTrue_not (d e s f H (λc g=>Q (!c) g) I h)
def ZV(ta:TE):TE:=λd H Q=>ta d H λx e=>∃c,x=.bl c/\Q (.bl (!c)) e
def Lq{op}(h:PE X a t):PE X (.BoolOp op [a] pos) t:=λc s d H Q I hw=>BoolOp_one (h c s d H Q I hw)
def VG(e:PE X a ta):PE X (.UnaryOp .Not a pos) (ZV ta):=by
 intro f s g H Q I h;refine UnaryOp_ (thn (e f s g H _ I h) λv s1 ⟨x,H1,i,j,d⟩=>?_)
 obtain⟨c,rfl,d⟩:=d;cases j;exact not_of (mN ⟨.bl (!c),H1,i,rfl,d⟩)
def tIf(t:TT)(ta tb:TE):TE:=λd H Q=>t d H λc e=>if c=true then ta d e Q else tb d e Q
def Lr(hc:PT X c tA)(j:PE X a ta)(k:PE X b tb):PE X (.IfExp c a b pos) (tIf tA ta tb):=by
 intro e s f H Q I h;refine wpAny_IfExp (thn (hc e s f H _ I h) λd s1 ⟨H1,g,i⟩=>?_)
 cases d with
 | true=>exact j e s1 f H1 Q g i
 | false=>exact k e s1 f H1 Q g i
end
def yL(K:W.Frag)(H:Hp)(a:Addr)(xs:List V):Prop :=
 Rd H a (.lst xs) \/
  ∃(o:Obj) (b:Array Value) (n:Nat),K.lookup a=some o/\o.cls=.type "list"/\o.dict=none/\o.data=.seq b n/\b.size<=sizeLine/\Vals xs b.toList
def lF.sq{K:W.Frag}{H:Hp}{a:Addr}{xs:List V}(h:lF K H a xs):yL K H a xs:=by
 rcases h with h | ⟨b,n,e,z,r⟩
 ·exact .inl h
 ·exact .inr ⟨_,b.toArray,n,e,rfl,rfl,rfl,by grind,by grind⟩
noncomputable def aeo:Value->Option V
 | .none=>some .cf
 | .bool b=>some (.bl b)
 | .int i _=>some (.int i)
 | .str x _=>some (.str x)
 | .bytes b _=>some (.Y9 b)
 | .float b _=>some (.flt b)
 | .ref a=>some (.ref a)
 | .type n=>some (.ty n)
 | _=>none
def RelV.abs(r:RelV x u):aeo u=some x:=by
 cases x with
 | cf=>cases r;rfl
 | bl _=>cases r;rfl
 | int _=>obtain⟨t,rfl⟩:=r;rfl
 | str _=>obtain⟨t,rfl⟩:=r;rfl
 | Y9 _=>obtain⟨t,rfl⟩:=r;rfl
 | flt _=>obtain⟨t,rfl⟩:=r;rfl
 | ref _=>cases r;rfl
 | ty _=>cases r;rfl
def RelV.inj(r:RelV x u)(q:RelV y u):x=y:=cL (r.abs.symm.trans q.abs)
theorem Vals.inj:∀{xs a:List V} {us:List Value},Vals xs us->Vals a us->xs=a
 | _,_,_,.nil,.nil=>rfl
 | _,_,_,.cons r t,.cons b c=>by rw[r.inj b,Vals.inj t c]
section
variable {X:Cx} {ae:List (Addr×Obj)} {σ:St} {H:Hp} {s:Shared} {a:Addr} {xs ys:List V}
def jx.of{K:W.Frag}(h:H a=some (.aq xs)):jx K H a xs:=.inl (.inl h)
def Inv.list(I:Inv X ae σ H s)(h:yL X.K H a xs):∃b:List Value,Vals xs b/\PlainL s.heap a b.toArray/\xs.length<=sizeLine:=by
 rcases h with h | ⟨o,b,n,hk,hc,hd,c,d,r⟩
 ·obtain⟨z,b,n,r,e⟩:=h.ok I.hok;exact⟨b,r,⟨_,n,e,rfl,rfl,rfl⟩,z⟩
 ·refine⟨b.toList,r,⟨o,n,I.tZ a o hk,hc,hd,by simp_all⟩,?_⟩
  have e:=r.length;simp only[da]at e
  lia
def Inv.tuple(I:Inv X ae σ H s)(h:jx X.K H a xs):∃b:List Value,Vals xs b/\IsTup s.heap a b.toArray/\xs.length<=sizeLine:=by
 rcases h with h | ⟨o,b,n,hk,hc,c,d,r⟩
 ·obtain⟨z,b,r,p⟩:=h.ok I.hok;exact⟨b,r,p,z⟩
 ·refine⟨b.toList,r,⟨o,I.tZ a o hk,hc,n,by simp_all⟩,?_⟩
  have e:=r.length;simp only[da]at e
  lia
def Inv.nH(I:Inv X ae σ H s)(h:yL X.K H a xs)(h':yL X.K H a ys):xs=ys:=by
 obtain⟨f,r,⟨o,n,e,_,_,d⟩,_⟩:=I.list h;obtain⟨g,j,⟨k,l,b,_,_,c⟩,_⟩:=I.list h';rw[e]at b;cases b;rw[d]at c;injection c with m _
 have:f=g:=by grind
 subst this;exact r.inj j
def Inv.lG(I:Inv X ae σ H s)(h:jx X.K H a xs)(h':jx X.K H a ys):xs=ys:=by
 obtain⟨f,r,⟨o,e,_,n,d⟩,_⟩:=I.tuple h;obtain⟨g,j,⟨k,b,_,l,c⟩,_⟩:=I.tuple h';rw[e]at b;cases b;rw[d]at c;injection c with m _
 have:f=g:=by grind
 subst this;exact r.inj j
end
section
variable {X:Cx} {st:Stmt} {rest:List Stmt} {t u:TS} {e:Expr} {te:TE} {pos:Pos}
def TL:TS:=λD a H=>D.nx a H
def aep(t u:TS):TS:=λD a H=>t {D with nx:=u D} a H
def Pk:PSs X [] TL:=λ_ _ a H _ I h=>yy ⟨a,H,I,h⟩
def Ls(h1:PS X st t)(b:PSs X rest u):PSs X (st::rest) (aep t u):=by
 intro a s c H D I h;refine wpAny_execs_cons (thn (h1 a s c H {D with nx:=u D} I h) λf d q=>?_)
 cases f with
 | next =>
  obtain⟨g,i,j,q⟩:=q;exact b a d g i D j q
 | ret v=>exact q
 | brk=>exact q
 | cont=>exact q
def Pl(h1:PS X st t):PSs X [st] t:=by
 intro a s b H D I h;refine wpAny_execs_cons (thn (h1 a s b H D I h) λf c q=>?_)
 cases f with
 | next=>exact yy q
 | ret v=>exact q
 | brk=>exact q
 | cont=>exact q
def VH:TS:=λD a H=>D.bk a H
def ZW:TS:=λD a H=>D.ct a H
def Pm:PS X (.Pass pos) TL:=λ_ _ a H _ I h=>wpAny_Pass ⟨a,H,I,h⟩
def Lu:PS X (.Break pos) VH:=λ_ _ a H _ I h=>wpAny_Break ⟨a,H,I,h⟩
def Ba:PS X (.Continue pos) ZW:=λ_ _ a H _ I h=>wpAny_Continue ⟨a,H,I,h⟩
def Inv.quiet{a:List (Addr×Obj)}{σ:St}{H:Hp}{s:Shared}(I:Inv X a σ H s):interactive X.env=false:=by simp[interactive,I.ok.kind]
def ZX(te:TE):TS:=λD a H=>te a H λ_ b=>D.nx a b
def Pn(he:PE X e te)(b:swapsWith e none pos.line X.env=pure false:=by rfl):PS X (.Expr e pos) (ZX te):=by
 intro c s a H D I h;exact wpAny_Expr_any (thn (he c s a H _ I h) (by rintro v s1 ⟨x,H1,d,g,f⟩;exact⟨a,H1,d,f⟩)) I.quiet b
def aeq(te:TE):TS:=λD a H=>te a H D.rt
def VI(he:PE X e te):PS X (.Return (some e) pos) (aeq te):=by
 intro b s a H D I h;exact wpAny_Return_some (thn (he b s a H _ I h) (by rintro v s1 ⟨x,H1,c,d,f⟩;exact⟨x,a,H1,c,d,f⟩))
def ZY:TS:=λD _ H=>D.rt .cf H
def Po:PS X (.Return none pos) ZY:=λ_ _ a H _ I h=>wpAny_Return_none ⟨.cf,a,H,I,rfl,h⟩
def aer(c:TT)(t u:TS):TS:=λD a H=>c a H λb d=>if b=true then t D a d else u D a d
def ZZ(hc:PT X c k)(l:PSs X a t)(m:PSs X b u):PS X (.If c a b pos) (aer k t u):=by
 intro f s g H D I h;refine wpAny_If (thn (hc f s g H _ I h) λd s1 ⟨H1,i,j⟩=>?_)
 cases d with
 | true=>exact l f s1 g H1 D i j
 | false=>exact m f s1 g H1 D i j
end
abbrev TG:=V->St->Hp->(St->Hp->Prop)->Prop
abbrev VJ:=List V->St->Hp->(St->Hp->Prop)->Prop
def PG(X:Cx)(a:Expr)(t:TG):Prop :=
 ∀(b:List (Addr×Obj)) (s:Shared) (σ:St) (H:Hp) (v:V) (u:Value) (Q:St->Hp->Prop),Inv X b σ H s->RelV v u->t v σ H Q ->
  wpAny (model X.prog X.w) X.A (assign a X.env u) (λ_ e=>∃c d,Inv X b c d e/\Q c d) X.xe s
def PGs(X:Cx)(ts:List Expr)(t:VJ):Prop :=
 ∀(a:List (Addr×Obj)) (s:Shared) (σ:St) (H:Hp) (b:List V) (us:List Value) (Q:St->Hp->Prop),Inv X a σ H s->Vals b us->t b σ H Q ->
  wpAny (model X.prog X.w) X.A (assignInOrder ((assignEach ts X.env).map (·.2)) us) (λ_ e=>∃c d,Inv X a c d e/\Q c d) X.xe s
abbrev Lv:=V->V->V->Hp->(Hp->Prop)->Prop
def Lw(X:Cx)(t:Lv):Prop :=
 ∀(a:List (Addr×Obj)) (s:Shared) (σ:St) (H:Hp) (o i v:V) (b c u:Value) (Q:Hp->Prop),Inv X a σ H s->RelV o b->RelV i c->RelV v u->t o i v H Q ->
  wpAny (model X.prog X.w) X.A (setItem b c u) (λ_ e=>∃d,Inv X a σ d e/\Q d) X.xe s
abbrev TIp:=V->V->Hp->VK->Prop
def PIp(X:Cx)(b:Operator)(t:TIp):Prop :=
 ∀(a:List (Addr×Obj)) (s:Shared) (σ:St) (H:Hp) (x y:V) (v u:Value) (Q:VK),Inv X a σ H s->RelV x v->RelV y u->t x y H Q ->
  wpAny (model X.prog X.w) X.A (inplaceOp b v u) (EP X a σ Q) X.xe s
section
variable {X:Cx} {pos:Pos}
def gName(i:Nat):TG:=λv a H Q=>Q (a.set i (some v)) H
def Pp(hN:X.N.Nodup)(a:X.N[i]?=some x)(b:TC X.env.scope x)(c:X.fn x=true\/X.env.scope.names.lookup x=some .local:=by first | exact .inl rfl | exact .inr rfl | assumption):PG X (.Name x pos) (gName i):=by
 intro e s f H v u Q I r h;exact wpAny_assign_Name (t7 I hN a b r (λg d=>⟨_,H,d,h⟩) c)
def aes:VJ:=λa b H Q=>a=[]/\Q b H
def Z0(t:TG)(u:VJ):VJ:=λa b H Q=>∃v r,a=v::r/\t v b H λc d=>u r c d Q
def Pq:PGs X [] aes:=by
 intro b s a H c d Q I r h;obtain⟨e,h⟩:=h;subst e;cases r;exact assignInOrder_nil ⟨a,H,I,h⟩
def Lx(h1:PG X e t)(c:PGs X a u)
  (d:(assignEach (e::a) X.env).map (·.2)=assign e X.env::(assignEach a X.env).map (·.2):=by rfl):PGs X (e::a) (Z0 t u):=by
 intro b s f H l m Q I r h;obtain⟨v,o,e1,h⟩:=h;subst e1;cases r with
 | cons r g =>
  rw[d];refine assignInOrder_cons (thn (h1 b s f H _ _ _ I r h) λ_ s1 ⟨i,H1,j,k⟩=>?_)
  exact c b s1 i H1 _ _ Q j g k
def aet(K:W.Frag)(n:Nat)(t:VJ):TG:=λv c H Q=>∃a b,v=.ref a/\jx K H a b/\b.length=n/\t b c H Q
def VL{c:List Expr}{k:Nat}{t:VJ}{n:Nat}(hc:X.calm=true)(h:PGs X c t)
  (d:(assignEach c X.env).length=n:=by rfl) (f:(assignEach c X.env).findIdx? (·.1)=none:=by rfl):PG X (.Tuple c k pos) (aet X.K n t):=by
 intro g s i H v u Q I r hw;obtain⟨a,j,e1,l,m,hw⟩:=hw;subst e1;cases r;obtain⟨x,p,ht,y⟩:=I.tuple l;refine assign_Tuple_tuple (I.ok.hd hc) ht (by simp[d,<-m,p.length]) f λB q=>?_
 have w:=I.kept (t':=s.toks) λb o e=>q b o (bL (br e)) e
 exact h g _ i H j _ Q w (by grind) hw
def aeu(to b:TE)(t:Lv):TG:=λv a H Q=>to a H λo c=>b a c λi d=>t o i v d λe=>Q a e
def VM(ho:PE X o to)(e:PE X i f)(g:Lw X t)
  (j:∀v,assign (.Subscript o i pos) X.env v=(do
   let a <-holding [v] (eval o X.env)
   let b <-holding [v,a] (eval i X.env)
   standAt pos
   holding [v,a,b] (setItem a b v)
   release [v,a,b] []):=by intro _;rfl):PG X (.Subscript o i pos) (aeu to f t):=by
 intro d s c H v u Q I r h;rw[j];refine ag (fy (thn (ho d s c H _ I h) λa s1 ⟨x,H1,k,l,m⟩=>?_))
 refine ag (fy (thn (e d s1 c H1 _ k m) λb s2 ⟨y,p,q,w,B⟩=>?_))
 refine ag (wpAny_standAt (ag (fy (thn (g d s2 c p x y v a b u _ q l w r B) λ_ s3 ⟨C,D,E⟩=>?_))))
 exact wpAny_release ⟨c,C,D,E⟩
def Pr(b:TE)(g:TG):TS:=λD a H=>b a H λx c=>g x a c D.nx
def Ly(he:PE X e d)(f:PG X a g)(i:swapsWithSole [a] e pos.line X.env=pure false:=by rfl)(hw:swappedStores [a] e X.env=pure none:=by rfl)
  (h1:(assignEach [a] X.env).map (·.2)=[assign a X.env]:=by rfl):PS X (.Assign [a] e pos) (Pr d g):=by
 intro b s c H D I h;refine wpAny_Assign_stores (thn (he b s c H _ I h) λv s1 ⟨x,H1,j,k,l⟩=>?_) i hw
 rw[h1];exact thn (f b s1 c H1 x v _ j k l) λ_ m q=>q
def VN(hN:X.N.Nodup)(a:X.N[i]?=some x)(b:TC X.env.scope x)(he:PE X e c)(d:swapsWith e (some (.Name x f)) pos.line X.env=pure false:=by rfl)(g:X.fn x=true\/X.env.scope.names.lookup x=some .local:=by first | exact .inl rfl | exact .inr rfl | assumption) :
  PS X (.Assign [.Name x f] e pos) (Pr c (gName i)):=by
 intro j s k H D I h;refine wpAny_Assign_Name (thn (he j s k H _ I h) λv s1 ⟨y,H1,l,m,o⟩=>?_) d
 exact t7 l hN a b m (λq p=>⟨_,H1,p,o⟩) g
def aev(i:Nat)(b:TE)(c:TIp):TS:=λD a H=>∃x,a[i]?=some (some x)/\b a H λy d=>c x y d λz e=>D.nx (a.set i (some z)) e
def VO(hN:X.N.Nodup)(f:X.N[i]?=some x)(a:TC X.env.scope x)(he:PE X e j)(ho:PIp X op o)(p:X.fn x=true\/X.env.scope.names.lookup x=some .local:=by first | exact .inl rfl | exact .inr rfl | assumption) :
  PS X (.AugAssign (.Name x Z) op e pos) (aev i j o):=by
 intro b s g H D I h;obtain⟨v,e1,h⟩:=h;obtain⟨m,q,t⟩:=I.loc;have Pt:ZM X.env.scope x:=by rcases a with k | k;exact .inl k;exact .inr (.inl k)
 obtain⟨u,r,l⟩:=t i x v f e1 Pt;refine wpAny_AugAssign_Name ?_;have go:wpAny (model X.prog X.w) X.A (eval e X.env) (λw B=>wpAny (model X.prog X.w) X.A (inplaceOp op u w) (λr d=>wpAny (model X.prog X.w) X.A (storeName X.env x r) (λ_=>SP X b D .next) X.xe d) X.xe B) X.xe s:=by
  refine thn (he b s g H _ I h) λw s1 ⟨y,H1,C,E,J⟩=>?_
  refine thn (ho b s1 g H1 v y u w _ C r E J) λz s2 ⟨zv,L,M,Q,R⟩=>?_
  exact t7 M hN f a Q (λs3 T=>⟨_,L,T,R⟩) p
 rcases l with⟨hk,hm⟩ | ⟨hk,c,hc,Y⟩
 ·exact wpAny_loadName_local I.ok.kind hk q hm go
 ·rcases hk with hk | hk
  ·exact wpAny_loadName_cell I.ok.kind hk hc Y go
  ·rcases a with k | k
   ·have:X.env.scope.names.lookup x=some .free:=hk;rw[k]at this;cases this
   ·have:X.env.scope.names.lookup x=some .free:=hk;rw[k]at this;cases this
end
section
variable {X:Cx} {pos:Pos}
def VP(c:TT)(i:TS):TS:=λD a H=>∃W:Nat->St->Hp->Prop,(∃m,W m a H)/\∀m a H,W m a H ->
 c a H λb d=>if b=true then ∃N:St->Hp->Prop,(∀e f,N e f->∃g,g<m/\W g e f)/\i {D with nx:=N,ct:=N,bk:=D.nx} a d else D.nx a d
def Lz(hp:PassesOwn (model X.prog X.w) X.A X.env X.xe)(hc:PT X c x)(y:PSs X body B):PS X (.While c body [] pos) (VP x B):=by
 intro j s C H D I h;obtain⟨W,⟨E,J⟩,nJ⟩:=h;refine wpAny_While (codeAny_whileLoop (λn L=>∃q r,Inv X j q r L/\W n q r) ?_ E ⟨C,H,I,J⟩)
 rintro n s1 ⟨e,H1,M,Q⟩
 refine mQ hp (thn (hc j s1 e H1 _ M (nJ n e H1 Q)) λb s2 ⟨t,u,g⟩=>?_)
 cases b with
 | true =>
  obtain⟨N,hN,g⟩:=g;rw[if_pos rfl];refine mQ hp (thn (y j s2 e t _ u g) λf R i=>?_)
  cases f with
  | next =>
   obtain⟨a,d,k,l⟩:=i;obtain⟨m,o,p⟩:=hN a d l;exact⟨m,o,a,d,k,p⟩
  | cont =>
   obtain⟨a,d,k,l⟩:=i;obtain⟨m,o,p⟩:=hN a d l;exact⟨m,o,a,d,k,p⟩
  | brk=>exact i
  | ret v=>exact i
 | false =>
  rw[if_neg bX];exact yy ⟨e,t,u,g⟩
end
structure It where
 go:Nat->Hp->Prop
 yld:Nat->Hp->V->Hp->Prop
 stop:Nat->Hp->Prop
def yM(X:Cx)(a:List (Addr×Obj))(H:Hp)(b:Addr):Prop :=
 H b=none/\b≠X.env.locals/\b∉X.fs/\(b∈X.ex\/X.s₀.heap.objs.size<=b)/\(∀x c,X.env.cells.lookup x=some c->c≠b)/\∀p∈X.pn++a,p.1≠b
def Inv.LB{X:Cx}{d:List (Addr×Obj)}{σ:St}{H H':Hp}{s:Shared}{b:Addr}(I:Inv X d σ H s)(a:s.heap.objs.size<=b)(f:H' b=none):yM X d H' b:=by
 refine⟨f,tM (b8 I.lt a),I.aei a,.inr (bC I.sz a),λx c e z=>?_,λp hp z=>?_⟩
 ·obtain⟨v,q⟩:=I.cell x c e;exact absurd (b8 q.lt (by grind)) (gR _)
 ·exact absurd (b8 (br (I.pin p hp).1) (by grind)) (gR _)
structure Turn (P:Program) (w:World) (K:W.Frag) (tg:Expr) (J:It) (fp:List Addr) (it:Addr) (tn:Nat->Heap->Prop):Prop where
 mem:it∈fp
 obj:∀i h,tn i h->∀b∈fp,∃o,h.get? b=some o/\∀v,o.data≠.cell v
 keep:∀i h h',tn i h->(∀b∈fp,∀o,h.get? b=some o->h'.get? b=some o)->tn i h'
 item:∀(X:Cx),X.prog=P->X.w=w->X.K=K->X.calm=true->∀(i:Nat) (ae:List (Addr×Obj)) (s:Shared) (σ:St) (H:Hp) (E:Value->Shared->Prop),Inv X ae σ H s->(∀b∈fp,yM X ae H b)->tn i s.heap->J.go i H ->
  wpAny (model P w) X.A (pyNext (.ref it)) (λr s1=>∃u,r=some u /\
   wpAny (model P w) X.A (letOwnedTupleGo tg (.ref it) u) (λ_ s2=>∃x H',Inv X ae σ H' s2/\RelV x u/\J.yld i H x H'/\tn (i+1) s2.heap/\∀b∈fp,H' b=none) E s1) E s
 done:∀(X:Cx),X.prog=P->X.w=w->X.K=K->X.calm=true->∀(i:Nat) (ae:List (Addr×Obj)) (s:Shared) (σ:St) (H:Hp) (E:Value->Shared->Prop),Inv X ae σ H s->(∀b∈fp,yM X ae H b)->tn i s.heap->J.stop i H ->
  wpAny (model P w) X.A (pyNext (.ref it)) (λr s1=>r=none/\Inv X ae σ H s1) E s
 self:∀(A:Around) (i:Nat) (s:Shared) (Q:Value->Shared->Prop) (E:Value->Shared->Prop),tn i s.heap->Q (.ref it) s->wpAny (model P w) A (pyIter (.ref it)) Q E s
abbrev TI:=St->Hp->(It->Hp->Prop)->Prop
def PIE(X:Cx)(d:List (Addr×Obj))(g:St)(i:Expr)(R:It->Hp->Prop)(a:Value)(s2:Shared):Prop :=
 ∃(it:Addr) (e:List Addr) (f:Nat->Heap->Prop) (J:It) (c:Hp),a=.ref it/\Inv X d g c s2/\Turn X.prog X.w X.K i J e it f/\f 0 s2.heap/\(∀b∈e,yM X d c b)/\R J c
def PI(X:Cx)(c a:Expr)(d:TI):Prop :=
 ∀(b:List (Addr×Obj)) (s:Shared) (σ:St) (H:Hp) (R:It->Hp->Prop),Inv X b σ H s->d σ H R ->
  wpAny (model X.prog X.w) X.A (eval a X.env) (λv e=>wpAny (model X.prog X.w) X.A (pyIter v) (PIE X b σ c R) X.xe e) X.xe s
def LC(ho:s.heap.get? it=some o)(hc:o.cls=.type n)(hd:o.data=.fields vs)
  (c:["enumerate","zip","dict_itemiterator","dict_reverseitemiterator","odict_iterator","itertools.zip_longest","itertools.pairwise"].contains n=false) (a:Q () s):wpAny M A (letOwnedTupleGo b (.ref it) u) Q E s:=by
 unfold letOwnedTupleGo;cases b<;>first
  | exact ao a
  | (cases u<;>first
    | exact ao a
    | (refine ag (wpAny_load ho ?_)
       rw[hc,hd];show wpAny M A (if(["enumerate","zip","dict_itemiterator","dict_reverseitemiterator","odict_iterator","itertools.zip_longest","itertools.pairwise"].contains n&&vs[0]?==some (rawInt _))=true then _ else _) Q E s
       rw[if_neg (by grind)]
       exact ao a))
def Itl(K:W.Frag)(a:Addr):It :=
 ⟨λi H=>∃b x,yL K H a b/\b[i]?=some x,λi H x c=>c=H/\∀b,yL K H a b->b[i]?=some x,λi H=>∃b,yL K H a b/\b.length<=i⟩
def Itt(K:W.Frag)(a:Addr):It :=
 ⟨λi H=>∃b x,jx K H a b/\b[i]?=some x,λi H x c=>c=H/\∀b,jx K H a b->b[i]?=some x,λi H=>∃b,jx K H a b/\b.length<=i⟩
def Itr(lo:Int)(n:Nat):It:=⟨λi _=>i<n,λi H x a=>a=H/\x=.int (lo+i),λi _=>n<=i⟩
def IF{P:Program}{w:World}{K:W.Frag}{Q:Expr}(a it:Addr):Turn P w K Q (Itl K a) [it] it (λi h=>h.IsListIter it a i) where
 mem:=by simp
 obj:=λi h f b g=>by
  have e:b=it:=by grind
  subst e;obtain⟨o,e,c,d⟩:=f;exact⟨o,e,λv z=>by grind⟩
 keep:=λi h M f k=>f.at λo e=>k it (by simp) o e
 item:=by
  intro X m hw q hc i R s T H E I j f r;subst m hw q;obtain⟨Y,x,l,t⟩:=r;obtain⟨Z,y,p,hz⟩:=I.list l;obtain⟨u,hu,ru⟩:=y.get t;obtain⟨B,C,f2,D,J,L⟩:=j it (by simp)
  refine wpAny_pyNext_list_item f p.isList (by simpa using hu) λM N sb=>?_
  have I1:=I.turned (t':=s.toks) (λb o g e=>(sb.2 b g).trans e) B C D J L
  obtain⟨o,e,c,d⟩:=id N;exact⟨u,rfl,LC e c d (by decide) ⟨x,H,I1,ru,⟨rfl,λys hy=>by rw[I.nH hy l];exact t⟩,N,λb g=>(j b g).1⟩⟩
 done:=by
  intro X m hw q hc i R s T H E I j f r;subst m hw q;obtain⟨Y,l,t⟩:=r;obtain⟨Z,y,p,hz⟩:=I.list l;obtain⟨B,C,f2,D,J,L⟩:=j it (by simp)
  have hl:=y.length;exact wpAny_pyNext_list_end (I.ok.hd hc) f p.isList (by simp;lia) λM eb=>⟨rfl,I.turned (λb o g e=>eb b o g e) B C D J L⟩
 self:=λ_ _ _ _ _ f h=>wpAny_pyIter_listiter f h
def Ep{P:Program}{w:World}{K:W.Frag}{Q:Expr}(a it:Addr):Turn P w K Q (Itt K a) [it] it (λi h=>h.IsTupleIter it a i) where
 mem:=by simp
 obj:=λi h f b g=>by
  have e:b=it:=by grind
  subst e;obtain⟨o,e,c,d⟩:=f;exact⟨o,e,λv z=>by grind⟩
 keep:=λi h M f k=>f.at λo e=>k it (by simp) o e
 item:=by
  intro X m hw q hc i R s T H E I j f r;subst m hw q;obtain⟨Y,x,l,t⟩:=r;obtain⟨Z,y,p,hz⟩:=I.tuple l;obtain⟨u,hu,ru⟩:=y.get t;obtain⟨B,C,f2,D,J,L⟩:=j it (by simp)
  refine wpAny_pyNext_tuple_item f (p) (by simpa using hu) λM N sb=>?_
  have I1:=I.turned (t':=s.toks) (λb o g e=>(sb.2 b g).trans e) B C D J L
  obtain⟨o,e,c,d⟩:=id N;exact⟨u,rfl,LC e c d (by decide) ⟨x,H,I1,ru,⟨rfl,λys hy=>by rw[I.lG hy l];exact t⟩,N,λb g=>(j b g).1⟩⟩
 done:=by
  intro X m hw q hc i R s T H E I j f r;subst m hw q;obtain⟨Y,l,t⟩:=r;obtain⟨Z,y,p,hz⟩:=I.tuple l;obtain⟨B,C,f2,D,J,L⟩:=j it (by simp)
  have hl:=y.length;exact wpAny_pyNext_tuple_end (I.ok.hd hc) f (p) (by simp;lia) λM eb=>⟨rfl,I.turned (λb o g e=>eb b o g e) B C D J L⟩
 self:=λ_ _ _ _ _ f h=>wpAny_pyIter_tupleiter f h
def Er{P:Program}{w:World}{K:W.Frag}{C:Expr}(it:Addr)(lo:Int)(n:Nat):Turn P w K C (Itr lo n) [it] it (λi h=>IsRangeIter h it (lo+(i:Nat)*1) ((n:Int)-(i:Nat)) 1) where
 mem:=by simp
 obj:=λi h a b c=>by
  grind
 keep:=λi h f a k=>k it (by simp) _ a
 item:=by
  intro X g hw j hc i x s y H E I d a l;subst g hw j;obtain⟨m,p,D,q,r,u⟩:=d it (by simp)
  have W:=Walks.range (prog:=X.prog) (w:=X.w) (I.ok.hd hc) it lo 1 n;refine W.item i s _ _ l a λv f J L B M=>?_
  obtain⟨t,rfl⟩:=L;have N:Inv X x y H {s with heap:=f,toks:=J}:=I.turned (λb o c e=>M b o (by grind) e) m p q r u
  refine⟨_,rfl,LC B rfl rfl (by decide) ⟨.int (lo+i),H,N,⟨t,?_⟩,⟨rfl,rfl⟩,B,λb c=>(d b c).1⟩⟩
  rw[Int.mul_one]
 done:=by
  intro X g hw j hc i x s y H E I d a l;subst g hw j;obtain⟨m,p,D,q,r,u⟩:=d it (by simp)
  exact wpAny_pyNext_range_end (I.ok.hd hc) a (by have:n<=i:=l;lia) λf Q=>⟨rfl,I.turned (λb o c e=>Q b o c e) m p q r u⟩
 self:=λ_ _ _ _ _ a h=>wpAny_pyIter_rangeiter a h
section
variable {X:Cx} {tg:Expr}
def Z1(K:W.Frag)(c:TE):TI:=λd H R=>c d H λx b=>∃a,x=.ref a/\(∃e,yL K b a e)/\R (Itl K a) b
def aez(K:W.Frag)(c:TE):TI:=λd H R=>c d H λx b=>∃a,x=.ref a/\(∃e,jx K b a e)/\R (Itt K a) b
def GH{l:Expr}{d:TE}(f:PE X l d):PI X tg l (Z1 X.K d):=by
 intro g s i H R I h;refine thn (f g s i H _ I h) λv s1 ⟨x,H1,c,j,k⟩=>?_
 obtain⟨a,e,⟨r,m⟩,q⟩:=k;subst e;cases j;obtain⟨t,u,p,w⟩:=c.list m;refine D4 p.isList ?_;refine⟨s1.heap.objs.size,[s1.heap.objs.size],_,_,H1,rfl,c.kept λb o e=>bA _ e,IF a _,⟨_,cU _ rfl,rfl,rfl⟩,λb y=>?_,q⟩
 have e:b=s1.heap.objs.size:=by grind
 subst e;exact c.LB (au _) (c.hok.fresh (au _))
def LD{l:Expr}{d:TE}(f:PE X l d):PI X tg l (aez X.K d):=by
 intro g s i H R I h;refine thn (f g s i H _ I h) λv s1 ⟨x,H1,c,j,k⟩=>?_
 obtain⟨a,e,⟨r,m⟩,q⟩:=k;subst e;cases j;obtain⟨t,u,p,w⟩:=c.tuple m;refine DZ (p) ?_;refine⟨s1.heap.objs.size,[s1.heap.objs.size],_,_,H1,rfl,c.kept λb o e=>bA _ e,Ep a _,⟨_,cU _ rfl,rfl,rfl⟩,λb y=>?_,q⟩
 have e:b=s1.heap.objs.size:=by grind
 subst e;exact c.LB (au _) (c.hok.fresh (au _))
def LF{c:List (Addr×Obj)}{d:St}{H:Hp}{s:Shared}{R:It->Hp->Prop}{E:Value->Shared->Prop}{lo a:Int}{t u v:Tok}{tk:Nat}(I:Inv X c d H s)(h1:-(2^62)<=lo)(g:lo<2^62)(i:-(2^62)<=a)(j:a<2^62)
  (q:R (Itr lo (a-lo).toNat) H):wpAny (model X.prog X.w) X.A (pyIter (.ref s.heap.objs.size)) (PIE X c d tg R) E {s with heap:=s.heap.push {cls:=.type "range",data:=.fields #[.int lo t,.int a u,.int 1 v]},toks:=tk}:=by
 refine wpAny_pyIter_range (IsRange.new ..) (small_one h1 g i j) ?_;have f:Inv X c d H {s with heap:=s.heap.push {cls:=.type "range",data:=.fields #[.int lo t,.int a u,.int 1 v]},toks:=tk}:=I.kept λb o e=>bA _ e
 refine⟨(s.heap.push {cls:=.type "range",data:=.fields #[.int lo t,.int a u,.int 1 v]}).objs.size,[(s.heap.push {cls:=.type "range",data:=.fields #[.int lo t,.int a u,.int 1 v]}).objs.size],_,_,H,rfl,
  f.kept λb o e=>bA _ e,Er _ lo (a-lo).toNat,?_,λb l=>?_,q⟩
 ·have e1:lo+(0:Nat)*1=lo:=by simp
  have k:(((a-lo).toNat:Nat):Int)-(0:Nat)=Builtin.Range.rangeSize lo a 1:=by rw[rangeSize_one];split<;>lia
  rw[e1,k];exact cU _ rfl
 ·have e:b=(s.heap.push {cls:=.type "range",data:=.fields #[.int lo t,.int a u,.int 1 v]}).objs.size:=by grind
  subst e;exact f.LB (au _) (f.hok.fresh (au _))
def Z2(a:TA):TI:=λb H R=>a b H λc d=>∃j:Int,c=[.int j] /\ -(2^62)<=j/\j<2^62/\R (Itr 0 j.toNat) d
def IG{a:Expr}{c:TA}{p pos:Pos}(d:Gl X "range")(f:X.mg "range"=none)(g:PA X [a] c)(i:starEach [a] X.env=[(false,eval a X.env)]:=by rfl):PI X tg (.Call (.Name "range" p) [a] [] pos) (Z2 c):=by
 intro k s l H R I h;refine Call_ (ld_blt I d f boot_range (mK (thn (g pos k s l H _ I h) λus s1 ⟨w,H1,m,o,b⟩=>?_) i rfl))
 obtain⟨j,e,b,u,q⟩:=b;subst e;cases o with
 | cons r v =>
  cases v;obtain⟨t,rfl⟩:=r;exact call_range_1 (LF m (by lia) (by lia) b u (by grind))
def aeA(e:TI)(g:TG)(f:TS):TS:=λD a H=>e a H λJ j=>∃W:Nat->Nat->St->Hp->Prop,(∃m,W 0 m a j)/\∀i m a H,W i m a H ->
 (J.stop i H/\D.nx a H)\/(J.go i H/\∃N:St->Hp->Prop,(∀c b,N c b->∃d,d<m/\W (i+1) d c b)/\∀x b,J.yld i H x b->g x a b λk l=>f {D with nx:=N,ct:=N,bk:=D.nx} k l)
def t8(a:List Addr)(h:Heap):List (Addr×Obj):=a.filterMap λb=>(h.get? b).map λo=>(b,o)
def jW(a:b∈c)(e:h.get? b=some o):(b,o)∈t8 c h:=td.mpr ⟨b,a,by rw[e];rfl⟩
def IH(hp:p∈t8 a h):p.1∈a/\h.get? p.1=some p.2:=by
 obtain⟨b,c,e⟩:=td.mp hp;cases q:h.get? b with
 | none=>rw[q]at e;cases e
 | some o =>
  rw[q]at e;have d:=cL e;subst d;exact⟨c,q⟩
def Inv.pinned{a:List (Addr×Obj)}{σ:St}{H:Hp}{s:Shared}{c:List Addr}(I:Inv X a σ H s)(j:∀b∈c,yM X a H b)(ho:∀b∈c,∃o,s.heap.get? b=some o/\∀v,o.data≠.cell v):Inv X (a++t8 c s.heap) σ H s :=
 I.nG λp hp=>(bB.mp hp).elim (λz=>I.pin p (dm _ z)) λz=>by
  obtain⟨f,e⟩:=IH z;obtain⟨k,l,m,_⟩:=j p.1 f;obtain⟨o,g,d⟩:=ho p.1 f;rw[e]at g;cases g;exact⟨e,k,l,m,d⟩
def Inv.t9{a pl:List (Addr×Obj)}{σ:St}{H:Hp}{s:Shared}(I:Inv X (a++pl) σ H s):Inv X a σ H s:=I.nG λp hp=>I.pin p (dm _ (fI _ hp))
def VQ(hp:PassesOwn (model X.prog X.w) X.A X.env X.xe)(hc:X.calm=true)(hi:PI X tg iter wi)(hg:PG X tg g)(a:PSs X body tb)
  (hs:∀x,foldedSetIterable iter X.env x=pure x:=by intro _;rfl):PS X (.For tg iter body [] pos) (aeA wi g tb):=by
 intro t s σ H D I h;refine wpAny_For (thn (hi t s σ H _ I h) λv s1 h1=>thn h1 λitv s2 h2=>?_) hs
 obtain⟨it,y,tn,J,H2,e,I2,T,Q,f2,W,⟨m0,w0⟩,nJ⟩:=h2;subst e;have R:∀{p:Hp},(∀b∈y,p b=none)->∀b∈y,yM X t p b:=λhn b a=>⟨hn b a,(f2 b a).2⟩
 refine codeAny_forLoop_any (λn s'=>∃i B p,Inv X t B p s'/\tn i s'.heap/\(∀b∈y,p b=none)/\W i n B p) ?_ m0 ⟨0,σ,H2,I2,Q,λb a=>(f2 b a).1,w0⟩
 rintro n s3 ⟨i,C,M,I3,wR,E,w3⟩
 rcases nJ i n C M w3 with⟨stop,qn⟩ | ⟨go,N,hN,step⟩
 ·refine mQ hp (thn (T.done X rfl rfl rfl hc i t s3 C M X.xe I3 (R E) wR stop) λr s4 ⟨hr,I4⟩=>?_)
  subst hr;exact yy ⟨C,M,I4,qn⟩
 ·refine mQ hp (thn (T.item X rfl rfl rfl hc i t s3 C M X.xe I3 (R E) wR go) λr s4 ⟨u,hr,h4⟩=>?_)
  subst hr;refine mQ hp (thn h4 λ_ s5 z9=>?_)
  obtain⟨x,H5,I5,r5,y5,Y,Z⟩:=z9;have I5':=I5.pinned (R Z) (T.obj _ _ Y);refine mQ hp (thn (hg _ s5 C H5 x u _ I5' r5 (step x H5 y5)) λ_ s6 ⟨σ6,H6,I6,q6⟩=>?_)
  refine mQ hp (thn (a _ s6 σ6 H6 _ I6 q6) λf s7 q=>?_)
  have c:∀{j:St} {k:Hp},Inv X (t++t8 y s5.heap) j k s7->N j k->∃m,m<n/\∃i B p,Inv X t B p s7/\tn i s7.heap/\(∀b∈y,p b=none)/\W i m B p:=λ{j k} l L=>by
   obtain⟨m',hm,w7⟩:=hN j k L;refine⟨m',hm,i+1,j,k,l.t9,T.keep _ _ _ Y λb a o e=>(l.pin (b,o) (dm _ (dm _ (jW a e)))).1,λb a=>?_,w7⟩
   obtain⟨o,e,d⟩:=T.obj _ _ Y b a;exact(l.pin (b,o) (dm _ (dm _ (jW a e)))).2.1
  cases f with
  | next=>obtain⟨j,k,l,L⟩:=q;exact c l L
  | cont=>obtain⟨j,k,l,L⟩:=q;exact c l L
  | brk=>obtain⟨j,k,l,q⟩:=q;exact⟨j,k,l.t9,q⟩
  | ret v=>obtain⟨x7,j,k,l,r7,q⟩:=q;exact⟨x7,j,k,l.t9,r7,q⟩
end
abbrev R2:=V->V->Hp->VK->Prop
def OpR(X:Cx)(f:Value->Value->Sem Value)(r:R2):Prop :=
 ∀(a:List (Addr×Obj)) (s:Shared) (σ:St) (H:Hp) (x y:V) (v u:Value) (Q:VK),Inv X a σ H s->RelV x v->RelV y u->r x y H Q ->
  wpAny (model X.prog X.w) X.A (f v u) (EP X a σ Q) X.xe s
def UnR(X:Cx)(f:Value->Sem Value)(r:V->Hp->VK->Prop):Prop :=
 ∀(a:List (Addr×Obj)) (s:Shared) (σ:St) (H:Hp) (x:V) (v:Value) (Q:VK),Inv X a σ H s->RelV x v->r x H Q ->
  wpAny (model X.prog X.w) X.A (f v) (EP X a σ Q) X.xe s
def nK(X:Cx)(f:Value)(r:List V->Hp->VK->Prop):Prop :=
 ∀(a:List (Addr×Obj)) (s:Shared) (σ:St) (H:Hp) (xs:List V) (us:List Value) (Q:VK),Inv X a σ H s->Vals xs us->r xs H Q ->
  wpAny (model X.prog X.w) X.A (call f us) (EP X a σ Q) X.xe s
def aeD(X:Cx)(r:V->Hp->(Bool->Hp->Prop)->Prop):Prop :=
 ∀(a:List (Addr×Obj)) (s:Shared) (σ:St) (H:Hp) (x:V) (v:Value) (Q:Bool->Hp->Prop),Inv X a σ H s->RelV x v->r x H Q ->
  wpAny (model X.prog X.w) X.A (truthy v) (TP X a σ Q) X.xe s
def Zc(r:R2)(b c:TE):TE:=λa H Q=>b a H λx d=>c a d λy e=>r x y e Q
def tUn(r:V->Hp->VK->Prop)(a:TE):TE:=λb H Q=>a b H λx c=>r x c Q
def rI(C:Int->Int->Prop)(g:Int->Int->V):R2:=λx y H Q=>∃i j,x=.int i/\y=.int j/\C i j/\Q (g i j) H
def Pu(g:Int->Int->V):R2:=λx y H Q=>∃i j,x=.int i/\y=.int j/\Q (g i j) H
def rU(g:Int->V):V->Hp->VK->Prop:=λx H Q=>∃i,x=.int i/\Q (g i) H
section
variable {X:Cx} {a b c:Expr} {ta tb tc:TE} {pos:Pos}
def Pw(k:PE X a ta)(l:PE X b tb){i:List (Addr×Obj)}{s:Shared}{d:St}{H:Hp}{R:V->V->Hp->Prop}(I:Inv X i d H s)
  (h:ta d H λx j=>tb d j λy e=>R x y e) {Q:Value->Shared->Prop} {f:Value->Value->Sem Value}
  (m:∀v u s2 x y e,Inv X i d e s2->RelV x v->RelV y u->R x y e->wpAny (model X.prog X.w) X.A (f v u) Q X.xe s2) :
  wpAny (model X.prog X.w) X.A (eval a X.env) (λv g=>wpAny (model X.prog X.w) X.A (eval b X.env) (λu o=>wpAny (model X.prog X.w) X.A (f v u) Q X.xe o) X.xe g) X.xe s:=by
 refine thn (k i s d H _ I h) λv s1 ⟨x,j,p,q,r⟩=>?_
 refine thn (l i s1 d j _ p r) λu s2 ⟨y,e,t,B,C⟩=>?_
 exact m v u s2 x y e t q B C
def Z3(ho:OpR X (binaryOp op) r)(d:PE X a ta)(e:PE X b tb):PE X (.BinOp a op b pos) (Zc r ta tb):=by
 intro f s g H Q I h;exact wpAny_BinOp (Pw d e I h λv u i x y j k l m q=>ho f i g j x y v u Q k l m q)
def Z4{r:V->Hp->VK->Prop}(ho:UnR X (unaryOp op) r)(f:PE X a ta):PE X (.UnaryOp op a pos) (tUn r ta):=by
 intro d s e H Q I h;exact UnaryOp_ (thn (f d s e H _ I h) (by rintro v s1 ⟨x,H1,g,i,j⟩;exact ho d s1 e H1 x v Q g i j))
def opI{f:Value->Value->Sem Value}{C:Int->Int->Prop}{g:Int->Int->Int}
  (d:∀(i j:Int) (t u:Tok) (s:Shared) (Q:Value->Shared->Prop) (E:Value->Shared->Prop),C i j->Q (.int (g i j) s.toks) {s with toks:=s.toks+1}->wpAny (model X.prog X.w) X.A (f (.int i t) (.int j u)) Q E s) :
  OpR X f (rI C λi j=>.int (g i j)):=by
 intro m s o H x y v u Q I e k h;obtain⟨i,j,rfl,rfl,hc,q⟩:=h;obtain⟨t,rfl⟩:=e;obtain⟨l,rfl⟩:=k;exact d i j t l s _ _ hc ⟨.int (g i j),H,I.tok _,⟨_,rfl⟩,q⟩
def VS{f:Value->Value->Sem Value}{g:Int->Int->Int}
  (d:∀(i j:Int) (t u:Tok) (s:Shared) (Q:Value->Shared->Prop) (E:Value->Shared->Prop),Q (.int (g i j) s.toks) {s with toks:=s.toks+1}->wpAny (model X.prog X.w) X.A (f (.int i t) (.int j u)) Q E s) :
  OpR X f (Pu λi j=>.int (g i j)):=by
 intro m s o H x y v u Q I e k h;obtain⟨i,j,rfl,rfl,q⟩:=h;obtain⟨t,rfl⟩:=e;obtain⟨l,rfl⟩:=k;exact d i j t l s _ _ ⟨.int (g i j),H,I.tok _,⟨_,rfl⟩,q⟩
def VT{f:Value->Value->Sem Value}{g:Int->Int->Bool}
  (d:∀(i j:Int) (t u:Tok) (s:Shared) (Q:Value->Shared->Prop) (E:Value->Shared->Prop),Q (.bool (g i j)) s->wpAny (model X.prog X.w) X.A (f (.int i t) (.int j u)) Q E s) :
  OpR X f (Pu λi j=>.bl (g i j)):=by
 intro m s o H x y v u Q I e k h;obtain⟨i,j,rfl,rfl,q⟩:=h;obtain⟨t,rfl⟩:=e;obtain⟨l,rfl⟩:=k;exact d i j t l s _ _ ⟨.bl (g i j),H,I,rfl,q⟩
def aeE(i j:Int):Prop:=0<j/\j<1073741824
def aeF(i j:Int):Prop:=0<=j/\j<=1000000/\i.natAbs<2^64
def VU(i j:Int):Prop:=(-(2^64)<i/\i<2^64)\/(-(2^64)<j/\j<2^64)
def VU.ok(h:VU i j):IntMulOk i j:=by
 rcases h with⟨d,e⟩ | ⟨d,e⟩
 ·exact .of_left (intBits_le_64 d e)
 ·exact .of_right (intBits_le_64 d e)
def VV:OpR X (binaryOp .Add) (Pu λi j=>.int (i+j)):=VS λ_ _ _ _ _ _ _ q=>add_int q
def VW:OpR X (binaryOp .Sub) (Pu λi j=>.int (i-j)):=VS λ_ _ _ _ _ _ _ q=>sub_int q
def VX:OpR X (binaryOp .Mult) (rI VU λi j=>.int (i*j)):=opI λ_ _ _ _ _ _ _ hc q=>mul_int q hc.ok
def Px:OpR X (binaryOp .FloorDiv) (rI aeE λi j=>.int (i/j)):=opI λi j _ _ _ _ _ hc q=>by
 have d:=hc.1;have e:=hc.2;exact floordiv_int (by lia) (by rw[Int.fdiv_eq_ediv_of_nonneg i (by lia)];exact q) (.inl (PyProof.noPylong_small (by lia)))
def VY:OpR X (binaryOp .Mod) (rI (λ_ j=>0<j) λi j=>.int (i%j)):=opI λi j _ _ _ _ _ hc q=>by
 have d:=hc;exact mod_int' (by lia) (by rw[Int.fmod_eq_emod_of_nonneg i (by lia)];exact q)
def VZ:OpR X (binaryOp .Pow) (rI aeF λi j=>.int (i^j.toNat)):=opI λ_ _ _ _ _ _ _ hc q=>pow_int_small hc.1 hc.2.1 hc.2.2 q
def Py:OpR X (inplaceOp .Add) (Pu λi j=>.int (i+j)):=VS λ_ _ _ _ _ _ _ q=>iadd_int q
def unI{f:Value->Sem Value}{g:Int->Int}
  (d:∀(i:Int) (t:Tok) (s:Shared) (Q:Value->Shared->Prop) (E:Value->Shared->Prop),Q (.int (g i) s.toks) {s with toks:=s.toks+1}->wpAny (model X.prog X.w) X.A (f (.int i t)) Q E s) :
  UnR X f (rU λi=>.int (g i)):=by
 intro j s k H x v Q I e h;obtain⟨i,rfl,q⟩:=h;obtain⟨t,rfl⟩:=e;exact d i t s _ _ ⟨.int (g i),H,I.tok _,⟨_,rfl⟩,q⟩
def V0:UnR X (unaryOp .USub) (rU λi=>.int (-i)):=unI λ_ _ _ _ _ q=>neg_int q
end
section
variable {X:Cx} {a b c:Expr} {ta tb tc:TE} {pos:Pos}
def V1{d:List (Addr×Obj)}{f:St}{H:Hp}{s:Shared}{Q:VK}{k k':Bool}(I:Inv X d f H s)(q:Q (.bl k) H)(e:k=k'):EP X d f Q (.bool k') s:=by
 subst e;exact⟨.bl k,H,I,rfl,q⟩
def Z5:OpR X (compareOp .Lt) (Pu λi j=>.bl (decide (i<j))):=VT λ_ _ _ _ _ _ _ q=>lt_int q
def Z6:OpR X (compareOp .LtE) (Pu λi j=>.bl (decide (i<=j))):=VT λ_ _ _ _ _ _ _ q=>le_int q
def Z7:OpR X (compareOp .GtE) (Pu λi j=>.bl (decide (j<=i))):=VT λ_ _ _ _ _ _ _ q=>ge_int q
def V2:OpR X (compareOp .Is) (λx y H Q=>y=.cf/\Q (.bl (decide (x=.cf))) H):=by
 intro f s g H x y v u Q I d e h;obtain⟨rfl,q⟩:=h;cases e;refine is_none_gen (V1 I q ?_);cases x<;>first
  | (cases d;rfl)
  | (obtain⟨t,rfl⟩:=d;rfl)
def Pz(ho:OpR X (compareOp op) r)(d:PE X a ta)(e:PE X b tb)(f:behindInMarks op b=false):PE X (.Compare a [op] [b] pos) (Zc r ta tb):=by
 intro g s i H Q I h;exact wpAny_Compare1 (Pw d e I h λv u j x y k l m o q=>ho g j i k x y v u Q l m o q) f
def TM(t:TE):TT:=λd H Q=>t d H λx e=>∃k,x=.bl k/\Q k e
def PC(ho:OpR X (compareOp op) r)(g:PE X a ta)(i:PE X b tb)(j:behindInMarks op b=false):PT X (.Compare a [op] [b] pos) (TM (Zc r ta tb)):=by
 intro d s f H Q I h;refine wpAny_isTrue_Compare1 (thn (g d s f H _ I h) λv s1 ⟨x,H1,l,m,o⟩=>thn (i d s1 f H1 _ l o) λu s2 ⟨y,p,q,t,w⟩ =>
  thn (ho d s2 f p x y v u _ q m t w) λc s3 ⟨z,B,C,D,k,e,E⟩=>?_) j
 subst e;cases D;exact mN ⟨B,C,E⟩
def Et(r f:R2)(ta tb tc:TE):TE:=λd H Q=>ta d H λx g=>tb d g λy i=>r x y i λz e=>∃k,z=.bl k /\
 (if k=true then tc d e λj l=>f y j l Q else Q (.bl false) e)
def LH(ho:OpR X (compareOp op) r)(p:OpR X (compareOp i) q)(t:PE X a ta)(w:PE X b tb)(hc:PE X c tc)
  (B:lastMarks [op,i] [b,c]=false:=by with_unfolding_all rfl):PE X (.Compare a [op,i] [b,c] pos) (Et r q ta tb tc):=by
 intro f s g H Q I h;refine Compare_chain (thn (t f s g H _ I h) λv s1 ⟨x,H1,C,D,E⟩=>chain_link (thn (w f s1 g H1 _ C E) λu s2 ⟨y,J,L,j,M⟩ =>
  thn (ho f s2 g J x y v u _ L D j M) λd s3 ⟨z,l,m,N,k,e,o⟩=>?_)) B
 subst e;cases N;refine mN ?_;cases k with
 | false=>exact ite_ff ⟨.bl false,l,m,rfl,o⟩
 | true=>exact ite_tt (chain_last (thn (hc f s3 g l _ m o) (by rintro R s4 ⟨T,Y,Z,r4,q4⟩;exact p f s4 g Y y T u R Q Z j r4 q4)))
def LI(ho:OpR X (compareOp op) r)(p:OpR X (compareOp i) q)(t:PE X a ta)(w:PE X b tb)(hc:PE X c tc)
  (B:lastMarks [op,i] [b,c]=false:=by with_unfolding_all rfl):PT X (.Compare a [op,i] [b,c] pos) (TM (Et r q ta tb tc)):=by
 intro f s g H Q I h;refine isTrue_chain (thn (t f s g H _ I h) λv s1 ⟨x,H1,C,D,E⟩=>test_link (thn (w f s1 g H1 _ C E) λu s2 ⟨y,J,L,j,M⟩ =>
  thn (ho f s2 g J x y v u _ L D j M) λd s3 ⟨z,l,m,N,k,e,o⟩=>?_)) B
 subst e;cases N;refine mN ?_;cases k with
 | false =>
  obtain⟨k',R,T⟩:=o;cases R;exact ite_ff ⟨l,m,T⟩
 | true =>
  refine ite_tt (test_last (thn (hc f s3 g l _ m o) λY s4 ⟨Z,H4,I4,r4,q4⟩=>thn (p f s4 g H4 y Z u Y _ I4 j r4 q4) λd' s5 z9=>?_))
  obtain⟨z2,H5,I5,r5,k2,e2,q5⟩:=z9;subst e2;cases r5;exact mN ⟨H5,I5,q5⟩
def PD(K:W.Frag)(x:V)(H:Hp)(k:Bool):Prop :=
 match x with
 | .cf=>k=false
 | .bl b=>k=b
 | .int i=>k=(i != 0)
 | .str y=>y.length<=sizeLine/\k=((y.length:Int) != 0)
 | .Y9 y=>y.size<=sizeLine/\k=((y.size:Int) != 0)
 | .ref p=>(∃d,yL K H p d/\k = !d.isEmpty)\/(∃d,jx K H p d/\k = !d.isEmpty)\/∃e,H p=some (.dK e)/\k = !e.isEmpty
 | _=>False
def Eu{d:Type}{kvs:List (d×V)}{vs:List (d×Value)}(r:KV kvs vs):(!vs.isEmpty) = !kvs.isEmpty:=by
 cases r<;>rfl
def ud(r:Vals xs d):(!d.toArray.isEmpty) = !xs.isEmpty:=by
 cases r<;>simp
def mV:(sizeLine:Nat)<2^63:=by rw[yE];decide
def LJ:aeD X (λx H Q=>∃k,PD X.K x H k/\Q k H):=by
 intro D s E H x v Q I f h;obtain⟨k,e,q⟩:=h;have J:=mV;have L:=yE;cases x with
 | cf =>
  cases f;have d:=e;subst d;exact truthy_none ⟨H,I,q⟩
 | bl b =>
  cases f;have d:=e;subst d;exact mN ⟨H,I,q⟩
 | int i =>
  obtain⟨t,rfl⟩:=f;have d:=e;subst d;exact PySem.P.truthy_int ⟨H,I,q⟩
 | str y =>
  obtain⟨t,rfl⟩:=f;obtain⟨B,d⟩:y.length<=sizeLine/\k=((y.length:Int) != 0):=e;subst d;exact PySem.P.truthy_str (by lia) ⟨H,I.tok _,q⟩
 | Y9 y =>
  obtain⟨t,rfl⟩:=f;obtain⟨B,d⟩:y.size<=sizeLine/\k=((y.size:Int) != 0):=e;subst d;exact W.truthy_bytes (by lia) ⟨H,I.tok _,q⟩
 | ref p =>
  cases f;have d:=e;rcases d with⟨xs,g,d⟩ | ⟨xs,g,d⟩ | ⟨j,g,d⟩
  ·subst d;obtain⟨C,r,pl,o⟩:=I.list g;have u:=r.length;exact wpAny_truthy_list pl.isList (by grind) ⟨H,I.tok _,by rw[ud r];exact q⟩
  ·subst d;obtain⟨C,r,pl,o⟩:=I.tuple g;have u:=r.length;exact truthy_tuple pl (by grind) ⟨H,I.tok _,by rw[ud r];exact q⟩
  ·subst d;obtain⟨o,hS,l,r,m⟩:j.length<=sizeLine/\(p==sysModules)=false/\∃l,KV j l/\s.heap.DictOf (ez X.prog X.w) p l:=I.hok p _ g
   have u:=pM r;exact wpAny_truthy_dict hS m (by lia) ⟨H,I.tok _,by rw[Eu r];exact q⟩
 | _=>exact(e).elim
def LM(g:PE X a ta)(he:∀e,isTrue a X.env e=(do let v <-e;standAt a.pos;holding [v] (truthy v))) :
  PT X a (λd H Q=>ta d H λx H'=>∃k,PD X.K x H' k/\Q k H'):=by
 intro f s d H Q I h;exact isTrue_plain (thn (g f s d H _ I h) (by rintro v s1 ⟨x,H1,i,j,l⟩;exact LJ f s1 d H1 x v Q i j l)) (he _)
def Ew:OpR X (binaryOp .Add) (λx y H Q=>∃i j,x=.str i/\y=.str j/\i.length+j.length<=sizeLine/\Q (.str (i++j)) H):=by
 intro k s l H x y v u Q I d e h;obtain⟨i,j,rfl,rfl,f,q⟩:=h;obtain⟨t,rfl⟩:=d;obtain⟨g,rfl⟩:=e;exact add_str (λg m=>⟨.str (i++j),H,I.tok _,⟨_,rfl⟩,q⟩) f
def ki(r:Vals [x] us):∃u,us=[u]/\RelV x u:=by
 cases r with
 | cons d e=>cases e;exact⟨_,rfl,d⟩
def TN(r:Vals [x,y] us):∃u d,us=[u,d]/\RelV x u/\RelV y d:=by
 cases r with
 | cons e f =>
  cases f with
  | cons g i=>cases i;exact⟨_,_,rfl,e,g⟩
def wU:nK X (.type "int") (λxs H Q=>(∃i,xs=[.int i]/\Q (.int i) H)\/∃k,xs=[.bl k]/\Q (.int (if k then 1 else 0)) H):=by
 intro e s f H xs g Q I r h;rcases h with⟨i,rfl,q⟩ | ⟨k,rfl,q⟩
 ·obtain⟨u,rfl,t,rfl⟩:=ki r;exact call_int_int ⟨.int i,H,I,⟨_,rfl⟩,q⟩
 ·obtain⟨u,rfl,d⟩:=ki r;cases d;exact call_int_bool ⟨.int (if k then 1 else 0),H,I.tok _,⟨_,rfl⟩,q⟩
def yN:nK X (.type "str") (λxs H Q=>∃i,xs=[.int i]/\i.natAbs.log2<1920/\Q (.str (toString i)) H):=by
 intro e s f H xs g Q I r h;obtain⟨i,rfl,d,q⟩:=h;obtain⟨u,rfl,t,rfl⟩:=ki r;exact PySem.P.str_of_int d ⟨.str _,H,I.tok _,⟨_,rfl⟩,q⟩
end
structure II (h:Heap) (x dx C:Addr) (mA:Str->Option Value):Prop where
 obj:h.get? x=some (W.instObj C dx)
 ns:h.Ns1 dx mA
 ne:dx≠x
def IJ{h:Heap}{c:Str->Option Value}(n:h.Ns1 g c):∃d,h.get? g=some d/\∀b,W.lookIn b d=some (c b):=by
 obtain⟨o,f,m,ho,hd,hk,_,i⟩:=n;refine⟨o,ho,λb=>?_⟩
 have e:=i b;unfold nsFind findBy at e;rw[<-Array.find?_toList]at e;unfold W.lookIn;rw[hd];dsimp only
 split
 ·grind
 ·rename_i q;rw[q]at e;have a:f.toList.any (·.refKey)=false:=by
   rw[List.any_eq_false];intro y j;obtain⟨z,t,k⟩:=hk y (Array.mem_toList_iff.mp j);simp[DictEntry.refKey,k]
  have l:¬f.toList.any (·.refKey)=true:=by grind
  rw[if_neg l];exact dO some e
def II.PF(I:II h x c C d):∃b,W.InstAt h x (W.instObj C c) C (some b)/\∀a,W.lookIn a b=some (d a) :=
 let ⟨b,ho,e⟩:=IJ I.ns
 ⟨b,⟨I.obj,rfl,rfl,ho⟩,e⟩
section
variable {prog:Program} {w:World} {A:Around} {E:Value->Shared->Prop} {s:Shared} {K:W.Frag} {x dx C f:Addr} {mA:Str->Option Value} {name:Str} {v:Value}
def PH(X:K.In s.heap)(I:II s.heap x dx C mA)(b:W.plainGet K C name=true)(c:W.hasDictIn K C=true)
  (d:W.findIn K (.ref C) name=some none) (e:mA name=some v) (a:W.handedIn v=true) (h:Q v {s with toks:=s.toks+1}) :
  wpAny (model prog w) A (getAttr (.ref x) name expr) Q E s:=by
 obtain⟨i,J,g⟩:=I.PF;exact W.get_value X J (W.plainGet_of b).1 (W.findObj_own c d rfl (by rw[g,e])) a h
def PJ(X:K.In s.heap)(I:II s.heap x dx C mA)
  (i:W.findIn K (.ref C) "__setattr__"=some (some (.builtin "object.__setattr__"))) (hp:W.plainOver K C=true) (ht:W.takerIn K C name=some none) (j:W.hasDictIn K C=true)
  (hw:PySem.Within mA ns) (hsz:ns.length<=sizeLine)
  (h:∀h',II h' x dx C (λy=>if y=name then some v else mA y)->Heap.SameBut dx s.heap h'->Q () {s with heap:=h',toks:=s.toks+2}) :
  wpAny (model prog w) A (setAttr (.ref x) name v) Q E s:=by
 obtain⟨p,J,q⟩:=I.PF;refine W.set_plain X J i (W.osa_open X J hp ht λb=>?_)
 obtain⟨r,hc,k⟩:=W.any_some j;have l:=I.obj;refine ag (ao (ag (ag (wpAny_loadPart l (ag (W.Looks.here (W.looks_clsIn X hc) ?_))))));rw[k];refine ao (ag (ao (ag ?_)));refine wpAny_nsSet1 I.ns λh' a g=>?_
 obtain⟨t,m,o,c,d,e⟩:=a.count (PySem.Within.cons name v hw);refine ag (wpAny_lookBehind c (by rw[d];exact pastItsLine_dict (bC e (by grind))) ?_)
 exact ao (h _ ⟨(g.2 _ (ee I.ne)).trans I.obj,a,I.ne⟩ g)
def LN(X:K.In s.heap)(b:W.makesIn K C=true)
  (c:W.findIn K (.ref C) "__init__"=some (some (.ref f))) (e:W.typeIn K (.ref f)=some (.type "function"))
  (h:codeAny (model prog w) (A.under (.builtin "type.__call__" ⟨.ref C::vs,kw⟩)) (.call (.ref f) ⟨.ref (s.heap.objs.size+1)::vs,kw⟩) (W.InitBack (s.heap.objs.size+1) R)
   {s with heap:=(s.heap.push W.emptyDict).push (W.instObj C s.heap.objs.size)}) :
  codeAny (model prog w) A (.call (.ref C) ⟨vs,kw⟩) R s:=by
 obtain⟨i,g,d,t,j⟩:=s;exact W.make_core (W.makes_of X b) (W.looks_findIn X c) (λa=>W.bind_fn X a e) (.inl rfl) h
end
noncomputable def jA(f:Str)(v:V):List (Str×V)->List (Str×V)
 | []=>[(f,v)]
 | (g,x)::r=>if g=f then(g,v)::r else(g,x)::jA f v r
theorem qz(f g:Str)(v:V):∀fs:List (Str×V),(jA f v fs).lookup g=if g=f then some v else fs.lookup g
 | []=>by
  show List.lookup g [(f,v)]=_;by_cases h:g=f
  ·grind
  ·grind
 | (k,x)::r=>by
  have ih:=qz f g v r;rw[show jA f v ((k,x)::r)=(if k=f then(k,v)::r else(k,x)::jA f v r)from rfl]
  by_cases hk:k=f
  ·grind
  ·grind
theorem pX(f:Str)(v:V):∀fs:List (Str×V),f∈(jA f v fs).map (·.1)/\∀g,g∈fs.map (·.1)->g∈(jA f v fs).map (·.1)
 | []=>⟨by simp[jA],λg h=>by simp at h⟩
 | (k,x)::r=>by
  obtain⟨a,b⟩:=pX f v r;rw[show jA f v ((k,x)::r)=(if k=f then(k,v)::r else(k,x)::jA f v r)from rfl]
  by_cases hk:k=f
  ·grind
  ·grind
theorem qA(f:Str)(v:V):∀fs:List (Str×V),(jA f v fs).length<=fs.length+1
 | []=>by simp[jA]
 | (k,x)::r=>by
  have ih:=qA f v r;rw[show jA f v ((k,x)::r)=(if k=f then(k,v)::r else(k,x)::jA f v r)from rfl]
  by_cases hk:k=f
  ·grind
  ·grind
def tW.PK(r:tW (some v) o):∃u,o=some u/\RelV v u:=by
 cases o with
 | none=>exact(r).elim
 | some u=>exact⟨u,rfl,r⟩
def IK(r:RelV v u):W.handedIn u=true:=by
 cases v with
 | cf=>cases(r);rfl
 | bl b=>cases(r);rfl
 | int i=>obtain⟨t,e⟩:=(r);cases e;rfl
 | str x=>obtain⟨t,e⟩:=(r);cases e;rfl
 | Y9 b=>obtain⟨t,e⟩:=(r);cases e;rfl
 | flt b=>obtain⟨t,e⟩:=(r);cases e;rfl
 | ref a=>cases(r);rfl
 | ty n=>cases(r);rfl
section
variable {P:Program} {w:World} {H H':Hp} {h h':Heap} {a C dx:Addr} {fs yI:List (Str×V)}
def GJ(c:mU P w H h)(e:H a=some (.kP C dx fs)):∃b,II h a dx C b/\(∀f,tW (fs.lookup f) (b f))/\PySem.Within b (fs.map (·.1))/\fs.length<=1000/\H dx=some (.own a):=by
 obtain⟨d,z,ne,g,b,n,r,q⟩:=(c a _ e);exact⟨b,⟨g,n,ne⟩,r,q,z,d⟩
end
def Iw.get{K:W.Frag}{C:Addr}(c:Iw K C)(f:Str):W.plainGet K C f=true:=c.pg
def jS.Z8{K:W.Frag}{C:Addr}{f:Str}(n:jS K C f):W.takerIn K C f=some none:=by
 unfold W.takerIn;rw[show W.findIn K (.ref C) f=some none from n]
 rfl
section
variable {X:Cx} {ae:List (Addr×Obj)} {σ:St} {H:Hp} {s:Shared} {a C dx:Addr} {fs:List (Str×V)} {f:Str} {v:V} {A:Around} {E:Value->Shared->Prop}
def Ex(I:Inv X ae σ H s)(e:H a=some (.kP C dx fs))(c:Iw X.K C)(n:jS X.K C f)(l:fs.lookup f=some v)
  (h:∀u d,Inv X ae σ H d->RelV v u->Q u d):wpAny (model X.prog X.w) A (getAttr (.ref a) f b) Q E s:=by
 obtain⟨j,O,r,_,_,_⟩:=GJ I.hok e;obtain⟨u,i,g⟩:=tW.PK (by rw[<-l];exact r f)
 exact PH I.tZ O (c.get f) c.hd n i (IK g) (h u _ (I.tok _) g)
def Ey(I:Inv X ae σ H s)(e:H a=some (.kP C dx fs))(c:Iw X.K C)(n:jS X.K C f)(J:fs.length<1000)(k:RelV y u)
  (h:∀i,Inv X ae σ (dj H a (.kP C dx (jA f y fs))) i->Q () i):wpAny (model X.prog X.w) A (setAttr (.ref a) f u) Q E s:=by
 obtain⟨l,O,r,j,_,ho⟩:=GJ I.hok e;have m:(fs.map (·.1)).length<=sizeLine:=by rw[aD,yE];lia
 refine PJ I.tZ O c.sa c.po n.Z8 c.hd j m λp d t=>h _ ?_
 have hd:∃o,p.get? dx=some o:=let ⟨o,_,_,x,_⟩:=d.ns;⟨o,x⟩
 refine I.write (by rw[e];exact True.intro) (.inr ho) (λb q B z=>(t.2 b B).trans z) hd ?_
 refine⟨by rw[aZ O.ne];exact ho,?_,O.ne,d.obj,_,d.ns,λg=>?_,λg D=>?_⟩
 ·have:=qA f y fs;lia
 ·rw[qz];by_cases q:g=f
  ·rw[if_pos q,if_pos q];exact k
  ·rw[if_neg q,if_neg q];exact r g
 ·by_cases q:g=f
  ·rw[q];exact(pX f y fs).1
  ·refine(pX f y fs).2 g (j g λz=>D ?_)
   show(if g=f then some u else l g)=none
   rw[if_neg q];exact z
def Inv.made(I:Inv X ae σ H s):Inv X ae σ (dj (dj H s.heap.objs.size (.own (s.heap.objs.size+1))) (s.heap.objs.size+1) (.kP C s.heap.objs.size []))
  {s with heap:=(s.heap.push W.emptyDict).push (W.instObj C s.heap.objs.size)}:=by
 have e1:(s.heap.push W.emptyDict).get? s.heap.objs.size=some W.emptyDict:=cU s.heap rfl;have c:((s.heap.push W.emptyDict).push (W.instObj C s.heap.objs.size)).get? (s.heap.objs.size+1)=some (W.instObj C s.heap.objs.size):=by
  have:=cU (s.heap.push W.emptyDict) (o:=W.instObj C s.heap.objs.size) rfl
  rwa [pK]at this
 have d:(s.heap.push W.emptyDict).Ns s.heap.objs.size (λ_=>none):=⟨W.emptyDict,#[],_,e1,rfl,(λe he=>absurd he (by simp)),λ_=>rfl⟩
 have g:=I.laid (o:=.own (s.heap.objs.size+1)) (t':=s.toks) (λb u q=>bA _ q) (au _) ⟨_,e1⟩
 refine g.laid (t':=s.toks) (λb u q=>bA _ q) (gS (pK _ _)) ?_
 have ne:s.heap.objs.size≠s.heap.objs.size+1:=by grind
 refine⟨by rw[aZ ne,aK],dE _,ne,c,λ_=>none,(Heap.Ns1.of_empty d).at λo q=>bA _ q,λ_=>True.intro,λy j=>absurd rfl j⟩
def PL(c:attributeBase e f env (eval e env)=eval e env)
  (h:wpAny (model prog w) A (eval e env) (λo b=>wpAny (model prog w) A (getAttr o f true) Q E b) E s):wpAny (model prog w) A (eval (.Attribute e f pos) env) Q E s :=
 Attribute_any_ h (by rw[arm_eval_Attribute,c])
end
def aeG(K:W.Frag)(c:TE)(f:Str):TE:=λd H Q=>c d H λx b=>∃a C e fs v,x=.ref a/\b a=some (.kP C e fs)/\Iw K C/\jS K C f/\fs.lookup f=some v/\Q v b
def aeH(K:W.Frag)(e g:TE)(f:Str):TS:=λD b H=>g b H λy i=>e b i λx c=>∃a C d fs,x=.ref a/\c a=some (.kP C d fs)/\Iw K C/\jS K C f/\fs.length<1000 /\
 D.nx b (dj c a (.kP C d (jA f y fs)))
section
variable {X:Cx} {o e value:Expr} {f:Str} {pos vW V4:Pos} {ta tv:TE}
def V5(he:PE X e ta)(b:attributeBase e f X.env (eval e X.env)=eval e X.env):PE X (.Attribute e f pos) (aeG X.K ta f):=by
 intro d s g H Q I h;refine PL b (thn (he d s g H _ I h) λu w i=>?_)
 obtain⟨x,j,k,m,a,C,y,fs,v,ex,p,c,n,l,q⟩:=i;subst ex;obtain rfl:u=Value.ref a:=m;exact Ex k p c n l λB D r t=>⟨v,j,r,t,q⟩
def V6(g:PE X o ta)(i:PE X value tv)(j:swapsWith value (some (.Attribute o f vW)) pos.line X.env=pure false):PS X (.Assign [.Attribute o f vW] value pos) (aeH X.K ta tv f):=by
 intro d s b H D I h;refine plainObj_wpAny_Assign_Attribute (thn (i d s b H _ I h) λu s1 ⟨y,H1,k,m,q⟩=>thn (g d s1 b H1 _ k q) λp J r=>?_) j
 obtain⟨x,L,t,v,a,C,M,fs,ex,w,c,n,l,B⟩:=r;subst ex;obtain rfl:p=Value.ref a:=v;exact Ey t w c n l m λN E=>⟨b,_,E,B⟩
end
structure dW (k:Nat) (A:Around):Prop where
 hd:A.handled=none
 dp:A.depth+3*k+5<recursionLimit
 un:A.units+16*k+1200<cLine
def dW.mono(r:dW k A)(h:j<=k):dW j A:=⟨r.hd,by have:=r.dp;lia,by have:=r.un;lia⟩
def dW.deeper(r:dW (k+1) A)(a:Env):dW k (A.deeper a) :=
 ⟨r.hd,by have:=r.dp;show A.depth+1+3*k+5<_;lia,by have:=r.un;show A.units+3+16*k+1200<_;lia⟩
def Ez{A:Around}:(A.under (.builtin "type.__call__" ⟨.ref C::us,kw⟩)).depth=A.depth+1:=by
 first | rfl | simp[Around.under,Code.weight,Code.isCreation,Code.isGuard,Code.isCaller,Code.frames,Code.isFrame,guardIds]
def EA{A:Around}:(A.under (.builtin "type.__call__" ⟨.ref C::us,kw⟩)).units=A.units+1:=by
 first | rfl | simp[Around.under,Code.cUnits,Code.frames,Code.isFrame]
def dW.make(r:dW (k+1) A)(C:Addr)(a:List Value)(kw:List (Str×Value)):dW k (A.under (.builtin "type.__call__" ⟨.ref C::a,kw⟩)) :=
 ⟨r.hd,by have:=r.dp;rw[Ez];lia,by have:=r.un;rw[EA];lia⟩
def dW.depth(r:dW k A):A.depth<recursionLimit:=by have:=r.dp;lia
def aeI:TA:=λ_ H Q=>Q [] H
def Z9(b:TE)(c:TA):TA:=λa H Q=>b a H λx d=>c a d λe f=>Q (x::e) f
section
variable {X:Cx} {e:Expr} {es:List Expr} {te:TE} {t:TA} {pos:Pos}
def ue:PA X [] aeI:=λ_ _ _ _ H Q I h=>Calls.spliced_nil ⟨[],H,I,.nil,h⟩
def jX(c:PE X e te)(hr:PA X es t)(d:starEach (e::es) X.env=(false,eval e X.env)::starEach es X.env:=by rfl):PA X (e::es) (Z9 te t):=by
 intro pos a s b H Q I h;rw[d];refine Calls.spliced_cons (thn (c a s b H _ I h) λu s1 ⟨x,H1,f,g,i⟩=>?_)
 exact thn (hr pos a s1 b H1 _ f i) (by rintro us s2 ⟨xs,j,k,l,m⟩;exact⟨x::xs,j,k,.cons g l,m⟩)
def aeJ(t:TA):TE:=λc H Q=>t c H λa b=>a.length<=sizeLine/\∀p,b p=none->Q (.ref p) (dj b p (.aq a))
def aeK(t:TA):TE:=λc H Q=>t c H λa b=>a.length<=sizeLine/\∀p,b p=none->Q (.ref p) (dj b p (.lst a))
def V7{c}(h:PA X es t):PE X (.Tuple es c pos) (aeJ t):=by
 intro d s f H Q I g;refine wpAny_Tuple_spliced (thn (h pos d s f H _ I g) λus s1 ⟨xs,H1,a,r,z,q⟩=>⟨by rw[<-r.length];exact z,?_⟩)
 have i:=a.hok.fresh (au _);refine⟨.ref s1.heap.objs.size,dj H1 s1.heap.objs.size (.aq xs),a.laid (λb u e=>bA _ e) (au _) ?_,rfl,q _ i⟩
 exact⟨z,us,r,⟨_,cU _ rfl,rfl,_,rfl⟩⟩
def LO(h:PA X es t):PE X (.List es pos) (aeK t):=by
 intro c s d H Q I f;refine wpAny_List_spliced (thn (h pos c s d H _ I f) λus s1 ⟨xs,H1,a,r,z,q⟩=>⟨by rw[<-r.length];exact z,?_⟩)
 have g:=a.hok.fresh (au _);refine⟨.ref s1.heap.objs.size,dj H1 s1.heap.objs.size (.lst xs),a.laid (λb u e=>bA _ e) (au _) ?_,rfl,q _ g⟩
 exact⟨z,us,0,r,cU _ rfl⟩
end
abbrev Sp:=List V->Hp->VK->XK->Prop
abbrev Ky:=List Env->Hp->Shared->XK->Value->Shared->Prop
structure Env0 (P:Program) (w:World) (K:W.Frag) (mg:Str->Option Value) (base:Heap) (A:Around) (aB:List Env) (s:Shared) (H:Hp):Prop where
 frames:A.frames=some aB
 mod:Mod K mg base
 bs:∀b o,base.get? b=some o->s.heap.get? b=some o/\H b=none
 bsz:base.objs.size<=s.heap.objs.size
 funs:s.heap.FunFrames base aB
 frf:∀b∈pW aB,H b=none
 hok:mU P w H s.heap
 bare:AllBare s.gens
 tabs:tY K H
def CE(c:List Env)(P:Program)(w:World)(H:Hp)(s:Shared)(Q:VK)(u:Value)(a:Shared):Prop :=
 ∃v b,a.os=s.os/\AllBare a.gens/\Un (pW c) [] H b s.heap a.heap/\mU P w b a.heap/\RelV v u/\Q v b
def CR(CX:Ky)(a:List Env)(P:Program)(w:World)(H:Hp)(s:Shared)(Q:VK)(E:XK)(r:Result)(b:Shared):Prop :=
 match r with
 | .ok (.ret u)=>CE a P w H s Q u b
 | .ok _=>False
 | .error e=>CX a H s E e b
structure FnOk (P:Program) (w:World) (K:W.Frag) (mg:Str->Option Value) (base:Heap) (CX:Ky) (k:Nat) (f:Addr) (fd:FuncData) (ps:List Str) (sp:Sp):Prop where
 len:∀vs H Q E,sp vs H Q E->vs.length=ps.length
 run:∀(A:Around) (aB:List Env) (s:Shared) (H:Hp) (args:Args) (us:List Value) (vs:List V) (Q:VK) (E:XK),dW k A->Env0 P w K mg base A aB s H->BindsTo s fd args (ps.zip us)->Vals vs us->sp vs H Q E ->
  codeAny (model P w) A (.call (.ref f) args) (CR CX aB P w H s Q E) s
def Env0.make{P:Program}{w:World}{K:W.Frag}{b:Str->Option Value}{a:Heap}{A:Around}{c:List Env}{s:Shared}{H:Hp}(e:Env0 P w K b a A c s H)(C:Addr)(d:List Value)(kw:List (Str×Value)) :
  Env0 P w K b a (A.under (.builtin "type.__call__" ⟨.ref C::d,kw⟩)) c s H:=⟨by first | exact e.frames | (simpa[Around.under,Code.envs,Code.isFrame,pushEnvs]using e.frames),e.mod,e.bs,e.bsz,e.funs,e.frf,e.hok,e.bare,e.tabs⟩
section
variable {X:Cx} {ae:List (Addr×Obj)} {σ:St} {H:Hp} {s s':Shared}
def Inv.PM(I:Inv X ae σ H s):Env0 X.prog X.w X.K X.mg X.base X.A X.stack s H :=
 ⟨I.ok.frames,I.ok.mod,I.bs,bC I.ok.bsz I.sz,I.stack,I.yK,I.hok,I.bare,I.tabs⟩
def Inv.after(I:Inv X ae σ H s)(h:CE X.stack X.prog X.w H s Q u s'):EP X ae σ Q u s':=by
 obtain⟨v,e,f,a,un,c,r,q⟩:=h;obtain⟨k,g,d,t,j⟩:=s';obtain rfl:j=s.os:=f;exact⟨v,e,I.call un c a (λb z=>absurd z (by simp)),r,q⟩
end
def TR(C:Addr)(c:Sp)(d:List V)(E:XK)(t:TA):TE:=λe H Q=>t e H λf b=>∀x a,b x=none->b a=none->a≠x ->
 c (.ref x::(f++d)) (dj (dj b a (.own x)) x (.kP C a [])) (λv g=>v=.cf/\Q (.ref x) g) E
def gZ(K:W.Frag)(b:FuncData)(ps:List Str)(a:List Value):Prop :=
 ∀(s:Shared) (us:List Value),K.In s.heap->(us++a).length=ps.length->BindsTo s b ⟨us,[]⟩ (ps.zip (us++a))
def gZ.all{K:W.Frag}{b:FuncData}{ps:List Str}(h:∀a:List Value,a.length=ps.length->bindArgs b ⟨a,[]⟩=pure (ps.zip a)):gZ K b ps []:=λs a _ c=>by
 rw[dc]at c ⊢;exact .of_eq (h a c)
def EB(CX:Ky)(X:Cx)(E:XK):Prop:=∀(b:List (Addr×Obj)) (σ:St) (H:Hp) (s:Shared) (e:Value) (a:Shared),Inv X b σ H s->CX X.stack H s E e a->X.xe e a
section
variable {X:Cx} {CX:Ky} {k:Nat} {f C:Addr} {fd:FuncData} {ps:List Str} {sp:Sp} {Tw:List V} {ds:List Value} {E:XK} {x m:Str} {p pos tP:Pos} {e o:Expr} {es:List Expr} {ta:TE} {t:TA}
def LP{g:List (Addr×Obj)}{i:St}{H:Hp}{s:Shared}{Q:VK}{a:List Value}{vs:List V}(M:Mk X.K C f)(F:FnOk X.prog X.w X.K X.mg X.base CX k f fd ps sp)(hr:dW (k+1) X.A)(q:gZ X.K fd ps ds)(hd:Vals Tw ds)
  (y:EB CX X E) (I:Inv X g i H s) (r:Vals vs a)
  (h:∀x c,H x=none->H c=none->c≠x->sp (.ref x::(vs++Tw)) (dj (dj H c (.own x)) x (.kP C c [])) (λv B=>v=.cf/\Q (.ref x) B) E) :
  wpAny (model X.prog X.w) X.A (call (.ref C) a) (EP X g i Q) X.xe s:=by
 have j:=h (s.heap.objs.size+1) s.heap.objs.size (I.hok.fresh (tN _)) (I.hok.fresh (au _)) (bL (tw _));have d:=Inv.made (C:=C) I;have l:Vals (V.ref (s.heap.objs.size+1)::(vs++Tw)) (Value.ref (s.heap.objs.size+1)::(a++ds)):=.cons rfl (r.append hd);have D:(Value.ref (s.heap.objs.size+1)::a++ds).length=ps.length:=by
  have e:=l.length;rw[F.len _ _ _ _ j]at e;exact e.symm
 refine tO (LN I.tZ M.makes M.init (bF.mp M.fn) (kJ (F.run _ X.stack _ _ ⟨Value.ref (s.heap.objs.size+1)::a,[]⟩ (Value.ref (s.heap.objs.size+1)::(a++ds)) _ _ E (hr.make C a [])
  (d.PM.make C a []) (q _ (Value.ref (s.heap.objs.size+1)::a) d.tZ D) l j) λr J b=>?_))
 cases r with
 | error e=>exact y g i _ _ e J d b
 | ok L =>
  cases L with
  | ret u =>
   obtain⟨v,N,R,T,Y,Z⟩:=d.after b;subst Y;exact⟨T,⟨V.ref (s.heap.objs.size+1),N,R,rfl,Z⟩⟩
  | next=>exact False.elim b
  | brk=>exact False.elim b
  | cont=>exact False.elim b
def PN(M:Mk X.K C f)(F:FnOk X.prog X.w X.K X.mg X.base CX k f fd ps sp)(hr:dW (k+1) X.A)(b:Gl X x)(c:X.mg x=some (.ref C))(d:gZ X.K fd ps ds)(hd:Vals Tw ds)(g:EB CX X E)
  (i:PA X (e::es) t) (j:(x==("__debug__":Str))=false:=by decide) (he:starEach (e::es) X.env=(false,eval e X.env)::starEach es X.env:=by rfl) (l:(backTo pos (starEach es X.env)).any (·.1)=false:=by rfl) :
  PE X (.Call (.Name x p) (e::es) [] pos) (TR C sp Tw E t):=by
 intro u s v H Q I h;refine kD (ld_glob I b c ?_ j);refine W.callWith_K I.ok.mod.kin M.kp (thn (i pos u s v H _ I h) λus s1 ⟨y,H1,a,r,q⟩=>⟨a.tZ,?_⟩) he l
 exact LP M F hr d hd g a r q
end
theorem wV{a:Str->Option NameKind}:∀{b:List (Str×Value)} {m:Str->Option Value},(∀v,(x,v)∉b)->bindL a b m x=m x
 | [],_,_=>rfl
 | (n,v)::r,m,h=>by
  unfold bindL;rw[wV λw hw=>h w (aM _ hw)]
  split
  ·grind
  ·rfl
theorem wW{a:Str->Option NameKind}:∀{b:List (Str×Value)} {m:Str->Option Value},(∀v,(x,v)∉b)->bindC a b m x=m x
 | [],_,_=>rfl
 | (n,v)::r,m,h=>by
  unfold bindC;rw[wW λw hw=>h w (aM _ hw)]
  split
  ·rfl
  ·grind
theorem wX{a:Str->Option NameKind}:∀{P:List Str} {vs:List Value} {i:Nat} {m:Str->Option Value},P.Nodup->P[i]?=some x->vs[i]?=some v->a x=some .local ->
  bindL a (P.zip vs) m x=some v
 | [],_,_,_,_,h,_,_=>by simp at h
 | _::_,[],_,_,_,_,h,_=>by simp at h
 | p::P,w::vs,0,m,nd,b,c,hk=>by
  simp at b c;subst b;subst c;show bindL a ((p,w)::P.zip vs) m p=_;unfold bindL;rw[wV λv d=>(jj.mp nd).1 (yz d).1,if_pos hk]
  simp
 | p::P,w::vs,i+1,m,nd,b,c,hk=>by
  unfold bindL;exact wX (jj.mp nd).2 (by simpa using b) (by grind) hk
theorem wY{a:Str->Option NameKind}:∀{P:List Str} {vs:List Value} {i:Nat} {m:Str->Option Value},P.Nodup->P[i]?=some x->vs[i]?=some v->a x≠some .local ->
  bindC a (P.zip vs) m x=some v
 | [],_,_,_,_,h,_,_=>by simp at h
 | _::_,[],_,_,_,_,h,_=>by simp at h
 | p::P,w::vs,0,m,nd,b,c,hk=>by
  simp at b c;subst b;subst c;show bindC a ((p,w)::P.zip vs) m p=_;unfold bindC;rw[wW λv d=>(jj.mp nd).1 (yz d).1,if_neg hk]
  simp
 | p::P,w::vs,i+1,m,nd,b,c,hk=>by
  unfold bindC;exact wY (jj.mp nd).2 (by simpa using b) (by grind) hk
noncomputable def start(N:List Str)(vs:List V):St:=vs.map some++List.replicate (N.length-vs.length) none
noncomputable def fV(CX:Ky)(P:Program)(w:World)(K:W.Frag)(mg:Str->Option Value)(base:Heap)(N:List Str)(qual:Str)(a:Scope)(f:Addr)(cd:Value)(A:Around)(aB:List Env)(s:Shared)(H:Hp)(E:XK):Cx where
 prog:=P
 w:=w
 K:=K
 mg:=mg
 base:=base
 A:=A.deeper (envOfC qual a s.heap.objs.size f cd)
 N:=N
 s₀:=s
 aa:=H
 env:=envOfC qual a s.heap.objs.size f cd
 aB:=aB
 stack:=envOfC qual a s.heap.objs.size f cd::aB
 ex:=[]
 calm:=true
 fn:=λ_=>true
 pn:=[]
 xe:=λe c=>wpAny (model P w) (A.deeper (envOfC qual a s.heap.objs.size f cd)) (leaving (envOfC qual a s.heap.objs.size f cd) e) (λ_ b=>CX aB H s E e b) (λd b=>CX aB H s E d b) c
def Bc{a:Scope}(h:a.names.lookup x=some .cell):∃c,(cellsFrom n a.names []).lookup x=some c:=by
 have q:=W.cellsFrom_some a.names n [] (.inl h);exact Option.isSome_iff_exists.mp q
def wZ{CX:Ky}{P:Program}{w:World}{K:W.Frag}{C:Str->Option Value}{g:Heap}{N ps:List Str}{qual:Str}{d:Scope}{f:Addr}{cd:Value}{A:Around}{D:List Env}{s s1:Shared}{H:Hp}{E:XK}{I:List Value}{vs:List V}
  (S:dP N ps d) (hd:A.handled=none) (j:Env0 P w K C g A D s H) (R:vs.length=ps.length) (r:Vals vs I)
  (x:InCallC s s.heap.objs.size (bindL (envOfC qual d s.heap.objs.size f cd).kindOf (ps.zip I) λ_=>none) (cellsFrom (s.heap.objs.size+1) d.names []) (bindC (envOfC qual d s.heap.objs.size f cd).kindOf (ps.zip I) λ_=>none) s1) :
  Inv (fV CX P w K C g N qual d f cd A D s H E) [] (start N vs) H s1:=by
 have T:ps.length<=N.length:=by have:=dO List.length S.pre;rw[jQ]at this;lia
 obtain⟨B,X,rfl,hk⟩:=x.done;have m:∀b:Addr,b∉(fV CX P w K C g N qual d f cd A D s H E).ex:=λb z=>absurd (show b∈([]:List Addr)from z) (by simp)
 refine⟨⟨j.mod,S.kind,rfl,rfl,au _,λy z c B l=>?_,λy o=>?_,λy c _ h=>?_,λ_=>hd,Around.frames_deeper j.frames,.inr ⟨rfl,rfl⟩,λb z=>absurd z (m b),j.bs,j.bsz,λb _ _=>m b,λb z=>absurd z (m b),j.funs,j.frf,j.tabs⟩,
  rfl,j.bare,Un.kept hk,⟨_,x.toInCall.ns,λi y v B l Y=>?_⟩,λy c h=>⟨_,x.cell y c h⟩,j.hok.fresh (au _),λy c h=>?_,λp hp=>absurd (show p∈([]:List (Addr×Obj))from hp) (by simp),j.hok.kept hk,?_⟩
 ·exact name_of_addr x.apart (fq B) (fq l)
 ·have o:=o;rcases o with o | o
  ·exact Bc o
  ·exact absurd rfl (S.nofree _ (fq o))
 ·exact dN (x.above y c (fq h))
 ·have J:i<vs.length:=by
   unfold start at l;by_cases J:i<vs.length
   ·exact J
   ·grind
  have M:vs[i]?=some v:=by
   unfold start at l;rw[jN (by grind),cw]at l
   cases e:vs[i]? with
   | none=>rw[e]at l;cases l
   | some a=>rw[e]at l;cases l;rfl
  obtain⟨u,L,Q⟩:=r.get M;have hp:ps[i]?=some y:=by
   rw[<-S.pre,List.getElem?_take_of_lt (by lia)];exact B
  have t:ps.Nodup:=by rw[<-S.pre];exact S.nd.sublist (List.take_sublist _ _)
  refine⟨u,Q,?_⟩;rcases S.par y (cK hp)with k | k
  ·exact .inl ⟨k,wX t hp L k⟩
  ·obtain⟨c,e⟩:=Bc k;refine .inr ⟨.inl k,c,e,?_⟩;have q:=x.cell y c e;rw[wY t hp L (by show d.names.lookup y≠_;rw[k];decide)]at q
   exact q
 ·exact j.hok.fresh (dN (x.above y c (fq h)))
 ·unfold start;show _=N.length;rw[bK,aD,List.length_replicate]
  lia
def GL{CX:Ky}{P:Program}{w:World}{K:W.Frag}{C:Str->Option Value}{c:Heap}{k:Nat}{f:Addr}{g qual:Str}{m:Arguments}{d:List Stmt}{a:Scope}{Y kV p Z i ct oc:Value}{an od:Option Addr}
  {AM:Array (Option Value)} {N ps:List Str} {L:Sp} (lk:K.lookup f=some ⟨oc,od,.func (W.fnOf g qual m d a Y kV p Z an i ct),AM⟩) (GB:W.codeIn K i qual=true) (S:dP N ps a)
  (len:∀vs H Q E,L vs H Q E->vs.length=ps.length)
  (hbody:∀(A:Around) (j:List Env) (s:Shared) (H:Hp) (vs:List V) (Q:VK) (E:XK),dW k (A.deeper (envOfC qual a s.heap.objs.size f i))->L vs H Q E ->
   ∃t,PSs (fV CX P w K C c N qual a f i A j s H E) d t/\t {nx:=λ_ H'=>Q .cf H',rt:=Q} (start N vs) H) :
  FnOk P w K C c CX (k+1) f (W.fnOf g qual m d a Y kV p Z an i ct) ps L:=by
 refine⟨len,λA j s H args us vs Q E hr B hb r PR=>?_⟩
 have hl:=len _ _ _ _ PR;have KX:=B.mod.kin.keeps λb o e=>(B.bs b o e).1
 have M:=B.mod.nolimit.keeps λb o e=>(B.bs b o e).1
 have R:∀y∈ps.zip us,a.names.lookup y.1=some .local\/(a.names.lookup y.1=some .cell/\((cellsFrom (s.heap.objs.size+1) a.names []).lookup y.1).isSome=true):=by
  rintro⟨n,v⟩ hy
  rcases S.par n (yz hy).1 with q | q
  ·grind
  ·exact .inr ⟨q,W.cellsFrom_some _ _ _ (.inl q)⟩
 refine codeAny_call_function hr.depth (KX _ _ lk) rfl S.co S.gen rfl (W.codeRec_of KX GB) (hb _ _ _ _ ?_);refine K2 S.kind R λenv he s1 x=>?_
 subst he;refine⟨M.keeps x.toInCall.keep,codeAny_func ?_⟩;obtain⟨t,ht,hq⟩:=hbody A j s H vs Q E (hr.deeper _) PR;have I:Inv (fV CX P w K C c N qual a f i A j s H E) [] (start N vs) H s1:=wZ S hr.hd B hl r x;refine kM (ht [] s1 (start N vs) H _ I hq) (λfl T l=>?_) λe T l=>l
 have fin:∀{D:St} {H':Hp} {v:V} {u:Value},Inv (fV CX P w K C c N qual a f i A j s H E) [] D H' T->RelV v u->Q v H'->CE j P w H s Q u T :=
  λ{D H' v u} J X q=>⟨v,H',J.os,J.bare,J.base,J.hok,X,q⟩
 cases fl with
 | ret u =>
  obtain⟨v,D,H',J,X,q⟩:=l;exact fin J X q
 | next =>
  obtain⟨D,H',J,q⟩:=l;exact fin (v:=V.cf) J rfl q
 | brk =>
  obtain⟨_,_,_,q⟩:=l;exact False.elim q
 | cont =>
  obtain⟨_,_,_,q⟩:=l;exact False.elim q
section
variable {X:Cx} {x:Str} {p pos:Pos} {e:Expr} {es:List Expr} {t:TA} {id T:String} {r:List V->Hp->VK->Prop}
def tCB(r:List V->Hp->VK->Prop)(t:TA):TE:=λa H Q=>t a H λb c=>r b c Q
def nL(hc:nK X (.builtin id) r)(c:Gl X x)(d:X.mg x=none)(f:bootBuiltins x=some (.builtin id))(g:PA X (e::es) t)(i:x≠"__name__":=by decide)(j:(x==("__debug__":Str))=false:=by decide)
  (he:starEach (e::es) X.env=(false,eval e X.env)::starEach es X.env:=by rfl) (k:(backTo pos (starEach es X.env)).any (·.1)=false:=by rfl):PE X (.Call (.Name x p) (e::es) [] pos) (tCB r t):=by
 intro a s b H Q I h;refine kD (ld_blt I c d f ?_ i j);exact KU (thn (g pos a s b H _ I h) (by rintro us s1 ⟨l,H1,m,o,q⟩;exact hc a s1 b H1 l us Q m o q)) he k
def pY(hc:nK X (.type T) r)(c:Gl X x)(d:X.mg x=none)(f:bootBuiltins x=some (.type T))(g:PA X (e::es) t)(i:x≠"__name__":=by decide)(j:(x==("__debug__":Str))=false:=by decide)
  (he:starEach (e::es) X.env=(false,eval e X.env)::starEach es X.env:=by rfl) (k:(backTo pos (starEach es X.env)).any (·.1)=false:=by rfl):PE X (.Call (.Name x p) (e::es) [] pos) (tCB r t):=by
 intro a s b H Q I h;refine kD (ld_blt I c d f ?_ i j);exact mK (thn (g pos a s b H _ I h) (by rintro us s1 ⟨l,H1,m,o,q⟩;exact hc a s1 b H1 l us Q m o q)) he k
end
end L2
namespace HT
open PySem PyProof.Rows
section
variable {prog:Program} {w:World} {A:Around} {E:Value->Shared->Prop} {s:Shared}
def GN(ht:IsTup s.heap t vs.toArray)(l:IsTup s.heap b ws.toArray)(q:vs≠[])
  (h1:ws=[]->Q (.ref t) s) (m:ws≠[]->Q (.ref s.heap.objs.size) {s with heap:=s.heap.push {cls:=.type "tuple",data:=.seq (vs++ws).toArray}})
  (hsz:vs.length+ws.length<=sizeLine):wpAny (model prog w) A (binaryOp .Add (.ref t) (.ref b)) Q E s:=by
 obtain⟨⟨cls,i,data,j⟩,ho,hc,n,hd⟩:=id ht;obtain⟨⟨o,c,p,d⟩,a,f,k,g⟩:=id l;simp only at hc hd f g;subst hc hd f g;have e:vs.toArray++ws.toArray=(vs++ws).toArray:=by simp
 by_cases hw:ws=[]
 ·exact concat_meets ⟨_,ho,rfl⟩ ⟨_,a,rfl⟩ Eb seq_tuple_add DU DR (DP _ _)
   (tuple_addW1 t b vs.toArray ws.toArray n k i c j d (by grind) (by simp[hw])) ⟨ho,a,h1 hw⟩
 ·refine concat_meets ⟨_,ho,rfl⟩ ⟨_,a,rfl⟩ Eb seq_tuple_add DU DR (DP _ _)
   (tuple_addW2 t b vs.toArray ws.toArray n k i c j d (by grind) (by grind) (by grind)) ⟨ho,a,?_⟩
  rw[e];exact m hw
noncomputable def fE(n d:Nat):Option Int->Nat
 | none=>d
 | some v=>if v<0 then(v+(n:Int)).toNat else min v.toNat n
def Be(n d:Nat):fE n d none=d:=rfl
def yP(n d k:Nat):fE n d (some (k:Int))=min k n:=by
 show(if(k:Int)<0 then((k:Int)+(n:Int)).toNat else min (k:Int).toNat n)=min k n
 rw[if_neg (by lia),fu]
def V9(n d:Nat)(hd:d<=n)(o:Option Int):fE n d o<=n:=by
 cases o with
 | none=>exact hd
 | some v =>
  show(if v<0 then(v+(n:Int)).toNat else min v.toNat n)<=n
  by_cases a:v<0
  ·grind
  ·grind
def GO(v:Int)(n d:Nat):(if v<0 then max (v+(n:Int)) 0 else min v (n:Int))=((fE n d (some v):Nat):Int):=by
 show(if v<0 then max (v+(n:Int)) 0 else min v (n:Int))=(((if v<0 then(v+(n:Int)).toNat else min v.toNat n):Nat):Int)
 by_cases a:v<0
 ·grind
 ·grind
def EC(lo a:Option Int)(n:Nat):Builtin.Slice.sliceAdjust lo a 1 (n:Int)=(((fE n 0 lo:Nat):Int),((fE n n a:Nat):Int)):=by
 have b:¬(1<0):=by lia
 unfold Builtin.Slice.sliceAdjust;simp only[b,jR];refine Prod.ext ?_ ?_
 ·cases lo with
  | none=>rfl
  | some v=>exact GO v n 0
 ·cases a with
  | none=>rfl
  | some v=>exact GO v n n
def ED(i j:Nat):Builtin.Slice.slicePlaces (i:Int) (j:Int) 1=j-i:=by
 unfold Builtin.Slice.slicePlaces;have a:1>0:=by lia
 simp only[a,jl,Int.ediv_one];split<;>lia
def uf(p:IsPart v o)(h:Q o s):wpAny (model prog w) A (Builtin.Slice.slicePartIndex v) Q E s:=by
 cases p with
 | none=>exact slicePart_none h
 | int i t=>exact slicePart_int h
def jB{d e:Value}{lo a:Option Int}{n:Nat}{Q:Int×Int×Nat->Shared->Prop}(f:s.heap.IsSliceOf g d e .none)(pl:IsPart d lo)(i:IsPart e a)
  (h:Q (((fE n 0 lo:Nat):Int),1,fE n n a-fE n 0 lo) s):wpAny (model prog w) A (Builtin.Slice.sliceApplied (.ref g) (pure (n:Int))) Q E s:=by
 obtain⟨j,c,k,b⟩:=id f;unfold Builtin.Slice.sliceApplied Builtin.Slice.sliceFields;refine ag (ag (kL c b rfl (ag (kL c b rfl (ag (kL c b rfl (ao ?_)))))));refine ag (slicePart_none ?_);rw[if_neg (by decide)]
 refine ag (uf pl (ag (uf i (ag (ao ?_)))));show wpAny _ _ (match Builtin.Slice.sliceAdjust lo a 1 (n:Int)with | (lo,a)=>pure (lo,(1:Int),Builtin.Slice.slicePlaces lo a 1)) _ _ s
 rw[EC lo a n];show wpAny _ _ (pure (((fE n 0 lo:Nat):Int),(1:Int),Builtin.Slice.slicePlaces ((fE n 0 lo:Nat):Int) ((fE n n a:Nat):Int) 1)) _ _ s;rw[ED];exact ao h
def LR(xs:Array Value)(i k:Nat):((List.range k).filterMap fun(m:Nat)=>xs[((i:Int)+(m:Int)*1).toNat]?).toArray=((xs.toList.drop i).take k).toArray:=by
 have e:(fun(m:Nat)=>xs[(i+(m:Int)*1).toNat]?)=λm=>xs[i+m]?:=by
  grind
 rw[e];have:=pick_run xs i k;rw[List.filterMap_map]at this;have a:((λx=>xs[x]?) ∘ λx=>i+x)=λm=>xs[i+m]?:=rfl
 rw[a]at this;rw[this]
def nM{a:Array Value}{e f:Value}{lo b:Option Int}{Q:Value->Shared->Prop}(ht:IsTup s.heap t a)(g:s.heap.IsSliceOf i e f .none)(pl:IsPart e lo)(j:IsPart f b)
  (hw:¬(fE a.size 0 lo=0/\fE a.size a.size b=a.size))
  (h:Q (.ref s.heap.objs.size) {s with heap:=s.heap.push {cls:=.type "tuple",data:=.seq ((a.toList.drop (fE a.size 0 lo)).take (fE a.size a.size b-fE a.size 0 lo)).toArray}})
  (hsz:a.size<=sizeLine):wpAny (model prog w) A (getItem (.ref t) (.ref i)) Q E s:=by
 have c:sizeOk (.seq ((a.toList.drop (fE a.size 0 lo)).take (fE a.size a.size b-fE a.size 0 lo)).toArray):=by
  show((a.toList.drop (fE a.size 0 lo)).take (fE a.size a.size b-fE a.size 0 lo)).toArray.size<=sizeLine;rw[fK,jQ,tu,da]
  lia
 have r:fE a.size a.size b<=a.size:=V9 _ _ (au _) b;obtain⟨k,l,o,p⟩:=id g;have q:s.TypeIs (.ref i) "slice":=⟨k,l,o⟩;unfold getItem
 try with_reducible refine fy ?_
 first | refine ag (ao ?_) | skip
 refine ag (wpAny_sequenceKey ht.typeIs (by decide) ?_)
 refine ag (kB ht.typeIs pf
  (iq pf ht.typeIs entry_tuple_getitem ?_ (args_tuple_getitem _ _)))
 show wpAny _ _ (Builtin.Tuple.tupleItemsOf (.ref t) >>= _) _ _ s;refine ag (tupleItemsOf_ ht ?_);refine ag (pP q ?_);rw[if_pos (by decide)]
 refine ag (jB g pl j ?_);have d:¬((((fE a.size 0 lo:Nat):Int)==0&&(1:Int)==1&&(fE a.size a.size b-fE a.size 0 lo)==a.size)=true):=by
  grind
 show wpAny _ _ (if(((fE a.size 0 lo:Nat):Int)==0&&(1:Int)==1&&(fE a.size a.size b-fE a.size 0 lo)==a.size)=true then _ else _) _ _ s
 rw[if_neg d,LR]
 first
  | exact ag (m:=Builtin.Tuple.tupleExact _) (jh (ao ⟨_,rfl,ao h⟩) c)
  | exact ag (m:=Builtin.Tuple.tupleExact _) (jh (ag (ao (ao ⟨_,rfl,ao h⟩))) c)
  | exact ag (ag (m:=Builtin.Tuple.tupleExact _) (jh (ao (ao ⟨_,rfl,ao h⟩)) c))
  | exact ag (ag (m:=Builtin.Tuple.tupleExact _) (jh (ao ⟨_,rfl,ao h⟩) c))
end
end HT
namespace L2
open PySem PySem.Spec PyProof.Rows
abbrev TO:=St->Hp->(Option Int->Hp->Prop)->Prop
def PO(X:Cx)(e:Option Expr)(t:TO):Prop :=
 ∀(a:List (Addr×Obj)) (s:Shared) (σ:St) (H:Hp) (Q:Option Int->Hp->Prop),Inv X a σ H s->t σ H Q ->
  wpAny (model X.prog X.w) X.A (evalPart e X.env) (λu c=>∃o b,Inv X a σ b c/\IsPart u o/\Q o b) X.xe s
def PX:TO:=λ_ H Q=>Q none H
def aaf(t:TE):TO:=λa H Q=>t a H λx b=>∃i,x=.int i/\Q (some i) b
def mW:∀{a:List Value},Vals (ns.map V.int) a->IntsAre a ns:=by
 induction ns with
 | nil=>intro a r;rw[pO]at r;cases r;exact .nil
 | cons n ns ih =>
  intro a r;rw[aH]at r;cases r with
  | cons b c =>
   obtain⟨t,e⟩:=b;subst e;exact .cons n t (ih c)
section
variable {X:Cx} {e:Expr} {te:TE} {lo hi:Option Expr} {tl th:TO} {pos p2:Pos}
def PY:PO X none PX:=by
 intro a s b H Q I h;rw[evalPart_none];exact ao ⟨none,H,I,.none,h⟩
def PZ(h:PE X e te):PO X (some e) (aaf te):=by
 intro a s b H Q I hw;rw[evalPart_some];refine thn (h a s b H _ I hw) λu s1 ⟨x,H1,c,d,f⟩=>?_
 obtain⟨i,rfl,q⟩:=f;obtain⟨t,rfl⟩:=d;exact⟨some i,H1,c,.int i t,q⟩
def SlR(X:Cx)(r:V->Option Int->Option Int->Hp->VK->Prop):Prop :=
 ∀(a:List (Addr×Obj)) (s:Shared) (σ:St) (H:Hp) (x:V) (v b c:Value) (lo hi:Option Int) (d:Addr) (Q:VK),Inv X a σ H s->RelV x v->s.heap.IsSliceOf d b c .none->IsPart b lo->IsPart c hi->r x lo hi H Q ->
  ∃T id,typeLookup (.type T) "__getitem__"=pure (some (.builtin id))/\s.TypeIs v T/\wpAny (model X.prog X.w) X.A (getItem v (.ref d)) (EP X a σ Q) X.xe s
def tSl(r:V->Option Int->Option Int->Hp->VK->Prop)(te:TE)(tl th:TO):TE:=λa H Q=>te a H λx b=>tl a b λl c=>th a c λu d=>r x l u d Q
def LU{r:V->Option Int->Option Int->Hp->VK->Prop}(hr:SlR X r)(he:PE X e te)(i:PO X lo tl)(j:PO X hi th):PE X (.Subscript e (.Slice lo hi none p2) pos) (tSl r te tl th):=by
 intro a s c H Q I h;refine Subscript_ (thn (he a s c H _ I h) λv s1 ⟨x,H1,k,m,o⟩=>?_)
 refine wpAny_Slice (thn (i a s1 c H1 _ k o) λd s2 ⟨l,p,t,pl,y⟩=>thn (j a s2 c p _ t y) λf s3 ⟨u,g,B,pu,C⟩=>?_)
 rw[evalPart_none];refine ao ?_;have D:Inv X a c g {s3 with heap:=s3.heap.push {cls:=.type "slice",data:=.fields #[d,f,.none]}}:=B.kept λb L q=>bA _ q
 obtain⟨T,id,E,ht,J⟩:=hr a {s3 with heap:=s3.heap.push {cls:=.type "slice",data:=.fields #[d,f,.none]}} c g x v d f l u s3.heap.objs.size Q D m (Heap.IsSliceOf.new ..) pl pu C
 show wpAny (model X.prog X.w) X.A (subscriptTail e (.Slice lo hi none p2) v (.ref s3.heap.objs.size)) (EP X a c Q) X.xe {s3 with heap:=s3.heap.push {cls:=.type "slice",data:=.fields #[d,f,.none]}}
 exact tail_any ht E J (by with_unfolding_all rfl)
def Bf(xs:List V)(lo hi:Option Int):List V:=(xs.drop (HT.fE xs.length 0 lo)).take (HT.fE xs.length xs.length hi-HT.fE xs.length 0 lo)
def qB(xs:List V)(lo hi:Option Int):(Bf xs lo hi).length<=xs.length:=by
 unfold Bf;rw[jQ,tu]
 lia
def aeP(K:W.Frag):V->Option Int->Option Int->Hp->VK->Prop:=λx lo hi H Q=>∃a b,x=.ref a/\jx K H a b /\
 ¬(HT.fE b.length 0 lo=0/\HT.fE b.length b.length hi=b.length)/\∀p,H p=none->Q (.ref p) (dj H p (.aq (Bf b lo hi)))
def Wa:SlR X (aeP X.K):=by
 intro m s o H x v p t lo hi u Q I d f pl g h;obtain⟨a,c,rfl,i,hw,q⟩:=h;cases d;obtain⟨j,r,ht,k⟩:=I.tuple i;have l:j.toArray.size=c.length:=by rw[fK];exact r.length.symm
 refine⟨"tuple",_,pf.lookup,ht.typeIs,?_⟩;refine HT.nM ht f pl g (by grind) ?_ (by grind)
 rw[l];refine⟨.ref s.heap.objs.size,_,I.laid (λb w q=>bA _ q) (au _) ?_,rfl,q _ (I.hok.fresh (au _))⟩
 exact⟨bC (qB c lo hi) k,_,(r.drop (HT.fE c.length 0 lo)).take (HT.fE c.length c.length hi-HT.fE c.length 0 lo),IsTup.new _ _⟩
def aag(K:W.Frag):R2:=λx y H Q=>∃a b d c,x=.ref a/\y=.ref b/\jx K H a d/\jx K H b c/\d≠[]/\d.length+c.length<=sizeLine /\
 (c=[]->Q (.ref a) H)/\(c≠[]->∀p,H p=none->Q (.ref p) (dj H p (.aq (d++c))))
def Vals.nN(r:Vals xs us):us=[]↔xs=[]:=by
 cases r with
 | nil=>simp
 | cons _ _=>simp
def P0:OpR X (binaryOp .Add) (aag X.K):=by
 intro r s t H x y v u Q I f g h;obtain⟨a,b,B,C,rfl,rfl,i,j,k,l,m,o⟩:=h;cases f;cases g;obtain⟨D,d,p,_⟩:=I.tuple i;obtain⟨E,c,p2,_⟩:=I.tuple j;refine HT.GN p p2 (λz=>k (d.nN.mp z)) (λz=>⟨.ref a,H,I,rfl,m (c.nN.mp z)⟩) (λz=>?_) (by rw[<-d.length,<-c.length];exact l)
 refine⟨.ref s.heap.objs.size,_,I.laid (λb J q=>bA _ q) (au _) ?_,rfl,o (λw=>z (c.nN.mpr w)) _ (I.hok.fresh (au _))⟩
 exact⟨by grind,_,d.append c,IsTup.new _ _⟩
end
noncomputable def P1(n:Nat)(i:Int):Option Nat:=if 0<=i then(if i<n then some i.toNat else none)else if -(n:Int)<=i then some (i+n).toNat else none
def mX{a:Type}(xs:List a)(i:Int):Option a:=(P1 xs.length i).bind λj=>xs[j]?
def GQ(h:P1 n i=some j):seqIndex? i n=some j/\j<n /\ -(n:Int)<=i/\i<n:=by
 unfold P1 at h;by_cases b:0<=i
 ·rw[if_pos b]at h;by_cases a:i<n
  ·rw[if_pos a]at h;have e:=cL h;exact⟨by rw[seqIndex_of b a,e],by lia,by lia,a⟩
  ·grind
 ·rw[if_neg b]at h;by_cases a:-n<=i
  ·rw[if_pos a]at h;have e:=cL h;exact⟨by rw[seqIndex_neg (by lia) a,e],by lia,a,by lia⟩
  ·grind
def yQ{a:Type}{xs:List a}{i:Int}{v:a}(h:mX xs i=some v):∃j,seqIndex? i xs.length=some j/\xs[j]?=some v/\j<xs.length /\ -(xs.length:Int)<=i/\i<xs.length:=by
 unfold mX at h;cases e:P1 xs.length i with
 | none=>rw[e]at h;cases h
 | some j =>
  rw[e]at h;obtain⟨b,c,d,f⟩:=GQ e;exact⟨j,b,h,c,d,f⟩
def atI_nat{a:Type}{xs:List a}{j:Nat}{v:a}(h:xs[j]?=some v):mX xs (j:Int)=some v:=by
 have b:=(cS.mp h).1;have e:P1 xs.length j=some j:=by
  unfold P1;rw[if_pos (by lia),if_pos (by lia)];simp
 unfold mX;rw[e];exact h
def rR(b:Expr):Prop:=∀o i,subscripted b false o i=operate [o,i] (getItem o i)
def Zd(X:Cx)(r:R2):Prop :=
 ∀(b a:Expr) (c:List (Addr×Obj)) (s:Shared) (σ:St) (H:Hp) (x y:V) (v u:Value) (Q:VK),Inv X c σ H s->RelV x v->RelV y u->r x y H Q ->
  subscripted a false v u=operate [v,u] (getItem v u)->wpAny (model X.prog X.w) X.A (subscriptTail b a v u) (EP X c σ Q) X.xe s
def MtR(X:Cx)(id:String)(r:V->List V->Hp->VK->Prop):Prop :=
 ∀(a:List (Addr×Obj)) (s:Shared) (σ:St) (H:Hp) (x:V) (xs:List V) (v:Value) (us:List Value) (Q:VK),Inv X a σ H s->RelV x v->Vals xs us->r x xs H Q ->
  wpAny (model X.prog X.w) X.A (call (.builtin id) (v::us)) (EP X a σ Q) X.xe s
section
variable {X:Cx} {a b:Expr} {ta tb:TE} {pos:Pos}
def TV(hr:Zd X r)(c:PE X a ta)(d:PE X b tb)(e:rR b):PE X (.Subscript a b pos) (Zc r ta tb):=by
 intro f s g H Q I h;exact Subscript_ (Pw c d I h λv u i x y j k l m q=>hr a b f i g j x y v u Q k l m q (e _ _))
def aeQ(K:W.Frag):R2:=λx y H Q=>∃p c i v,x=.ref p/\y=.int i/\yL K H p c/\mX c i=some v/\Q v H
def aeR(K:W.Frag):R2:=λx y H Q=>∃p c i v,x=.ref p/\y=.int i/\jx K H p c/\mX c i=some v/\Q v H
def aeS:R2:=λx y H Q=>∃z i c,x=.str z/\y=.int i/\z.length<=sizeLine/\mX z.cps.toList i=some c/\Q (.str ⟨#[c]⟩) H
def P4:Zd X (aeQ X.K):=by
 intro d e k s l H x y v u Q I m o h f;obtain⟨p,R,i,z,rfl,rfl,B,he,q⟩:=h;cases m;obtain⟨t,rfl⟩:=o;obtain⟨C,r,pl,T⟩:=I.list B;obtain⟨j,c,D,Y,E,J⟩:=yQ he;obtain⟨w,Z,L⟩:=r.get D;have M:=r.length;have hn:=mV;have fin:EP X k l Q w s:=⟨z,H,I,L,q⟩;by_cases g:0<=i
 ·have N:i.toNat=j:=by
   rw[seqIndex_of g J]at c;exact cL c
  exact item_listR pl.isList g (by lia) (by grind) fin f
 ·have N:(i+(C.toArray.size:Int)).toNat=j:=by
   rw[seqIndex_neg (by lia) E]at c
   rw[fK,<-M];exact cL c
  exact subscriptTail_builtinR pl.isList.typeIs slot_list_getitem.lookup
   (wpAny_getItem_list_neg pl.isList (by lia) (by grind) (by lia) (by grind) ⟨rfl,fin⟩) f
def Wc:Zd X (aeR X.K):=by
 intro c d e s f H x y v u Q I g k h l;obtain⟨p,E,i,z,rfl,rfl,m,he,q⟩:=h;cases g;obtain⟨t,rfl⟩:=k;obtain⟨J,r,pl,L⟩:=I.tuple m;obtain⟨j,o,B,M,N,R⟩:=yQ he;obtain⟨w,T,C⟩:=r.get B;have D:=r.length;have Y:=mV;have fin:EP X e f Q w s:=⟨z,H,I,C,q⟩;exact subscriptTail_builtinR pl.typeIs slot_tuple_getitem.lookup
  (getItem_tuple pl (by lia) (by lia) (by rw[fK,<-D];exact o) (by grind) ⟨rfl,fin⟩) l
def Wd:Zd X aeS:=by
 intro d e r s w H x y v u Q I f g h k;obtain⟨z,i,c,rfl,rfl,B,he,q⟩:=h;obtain⟨t,rfl⟩:=f;obtain⟨C,rfl⟩:=g;obtain⟨j,l,D,E,m,o⟩:=yQ he;have p:z.cps.toList.length=z.length:=by simp[Str.length]
 rw[p]at l m o;have J:=mV;exact tail_any (typeIs_str s z t) slot_str_getitem.lookup (getItem_str (by
  grind) (by grind) ⟨.str ⟨#[c]⟩,H,I.tok _,⟨_,rfl⟩,q⟩) k
def EE(c:List Value)(n j:Nat)(u:Value):Obj.mapSeq (·.setIfInBounds j u) {cls:=.type "list",data:=.seq c.toArray n}={cls:=.type "list",data:=.seq (c.set j u).toArray n}:=by
 simp[Obj.mapSeq]
def Inv.lst{d:List (Addr×Obj)}{σ:St}{H:Hp}{s:Shared}{p:Addr}{xs:List V}(I:Inv X d σ H s)(h:H p=some (.lst xs)) :
  ∃(c:List Value) (n:Nat),Vals xs c/\s.heap.get? p=some {cls:=.type "list",data:=.seq c.toArray n}/\xs.length<=sizeLine:=by
 obtain⟨z,c,n,r,e⟩:=I.hok p _ h;exact⟨c,n,r,e,z⟩
def Inv.We{j:List (Addr×Obj)}{σ:St}{H:Hp}{s:Shared}{p:Addr}{xs d:List V}{k c:List Value}{n g:Nat}{f:Obj->Obj}(I:Inv X j σ H s)(h:H p=some (.lst xs))
  (ho:s.heap.get? p=some {cls:=.type "list",data:=.seq k.toArray n}) (l:f {cls:=.type "list",data:=.seq k.toArray n}={cls:=.type "list",data:=.seq c.toArray g}) (r:Vals d c) (m:d.length<=sizeLine) (t:Nat) :
  Inv X j σ (dj H p (.lst d)) {s with heap:=s.heap.update p f,toks:=t}:=by
 have e:(s.heap.update p f).get? p=some {cls:=.type "list",data:=.seq c.toArray g}:=by
  rw[sW f ho (by rw[l]<;>rfl),l]
 refine I.write (by rw[h];trivial) (.inl rfl) (λb u o q=>(ye _ _ (ee o)).trans q) ⟨_,e⟩ ?_
 exact⟨m,c,g,r,e⟩
def aah:V->V->V->Hp->(Hp->Prop)->Prop:=λo i v H Q=>∃p c k j,o=.ref p/\i=.int k/\H p=some (.lst c)/\P1 c.length k=some j/\Q (dj H p (.lst (c.set j v)))
def LV:Lw X aah:=by
 intro f s g H o i v E J u Q I l m w h;obtain⟨p,x,k,j,rfl,rfl,hp,y,q⟩:=h;cases l;obtain⟨t,rfl⟩:=m;obtain⟨d,n,r,ho,L⟩:=I.lst hp;obtain⟨c,M,B,C⟩:=GQ y;have D:=r.length;have N:=mV;have R:Inv X f g (dj H p (.lst (x.set j v))) {s with heap:=s.heap.update p (Obj.mapSeq (·.setIfInBounds j u))} :=
  I.We hp ho (EE d n j u) (r.set w j) (by grind) s.toks
 by_cases e:0<=k
 ·have hk:k.toNat=j:=by
   rw[seqIndex_of e C]at c;exact cL c
  exact W.ki_setAt ho e (by lia) (by grind) (by grind)
 ·have hk:(k+(d.toArray.size:Int)).toNat=j:=by
   rw[seqIndex_neg (by lia) B]at c
   rw[fK,<-D];exact cL c
  exact W.ki_setBack ho (by lia) (by grind) (by lia) (by grind)
def yR(lo c:Option Int)(n:Nat):(sliceBounds lo c none n).1=((HT.fE n 0 lo:Nat):Int)/\(sliceBounds lo c none n).2.1=((HT.fE n n c:Nat):Int)/\(sliceBounds lo c none n).2.2=1:=by
 refine⟨?_,?_,rfl⟩
 ·cases lo with
  | none=>simp[sliceBounds,HT.fE]
  | some i =>
   simp only[sliceBounds,HT.fE,D8,show 1>0 by decide,jl]
   by_cases h:i<0
   ·grind
   ·grind
 ·cases c with
  | none=>simp[sliceBounds,HT.fE]
  | some i =>
   simp only[sliceBounds,HT.fE,D8,show 1>0 by decide,jl]
   by_cases h:i<0
   ·grind
   ·grind
def vX(c:List Value)(lo d:Option Int):slicePick c.toArray lo d none=((c.drop (HT.fE c.length 0 lo)).take (HT.fE c.length c.length d-HT.fE c.length 0 lo)).toArray:=by
 obtain⟨e,f,g⟩:=yR lo d c.toArray.size;unfold slicePick;rw[e,f,g];simp only[sliceRange_one,pick_run,fK]<;>rfl
def aeT(K:W.Frag):V->Option Int->Option Int->Hp->VK->Prop:=λx lo d H Q=>∃a c,x=.ref a/\yL K H a c/\∀p,H p=none->Q (.ref p) (dj H p (.lst (Bf c lo d)))
def P5:SlR X (aeT X.K):=by
 intro l s m H x v o p lo d t Q I e f pl g h;obtain⟨a,c,rfl,i,q⟩:=h;cases e;obtain⟨u,r,ht,j⟩:=I.list i;have k:=r.length;refine⟨"list",_,slot_list_getitem.lookup,ht.isList.typeIs,?_⟩;refine wpAny_getItem_list_slice ht.isList f pl g .none (by simp) ?_ (by grind)
 rw[vX,<-k];refine⟨.ref s.heap.objs.size,_,I.laid (λb w q=>bA _ q) (au _) ?_,rfl,q _ (I.hok.fresh (au _))⟩
 exact⟨bC (qB c lo d) j,_,0,(r.drop (HT.fE c.length 0 lo)).take (HT.fE c.length c.length d-HT.fE c.length 0 lo),cU _ rfl⟩
def nQ:nK X (.builtin "len") (λxs H Q=>∃p c,xs=[.ref p]/\(yL X.K H p c\/jx X.K H p c)/\Q (.int c.length) H):=by
 intro k s l H xs m Q I r h;obtain⟨p,c,rfl,d,q⟩:=h;obtain⟨u,rfl,f⟩:=ki r;cases f;have o:=mV;rcases d with d | d
 ·obtain⟨g,e,pl,i⟩:=I.list d;have j:=e.length;exact Calls.call_len_list pl.isList (by grind) ⟨.int c.length,H,I.tok _,⟨s.toks+1,by grind⟩,q⟩
 ·obtain⟨g,e,pl,i⟩:=I.tuple d;have j:=e.length;exact len_tuple pl (by grind) ⟨.int c.length,H,I.tok _,⟨s.toks+1,by grind⟩,q⟩
def yS:nK X (.builtin "len") (λxs H Q=>∃z,xs=[.str z]/\z.length<=sizeLine/\Q (.int z.length) H):=by
 intro c s d H xs e Q I r h;obtain⟨z,rfl,f,q⟩:=h;obtain⟨u,rfl,t,rfl⟩:=ki r;have g:=mV;exact len_str (by lia) ⟨.int z.length,H,I.tok _,⟨_,rfl⟩,q⟩
def mh:nK X (.type "tuple") (λxs H Q=>∃p c,xs=[.ref p]/\((yL X.K H p c/\∀l,H l=none->Q (.ref l) (dj H l (.aq c)))\/(jx X.K H p c/\Q (.ref p) H))):=by
 intro m s t H xs y Q I r h;obtain⟨p,c,rfl,h⟩:=h;obtain⟨u,rfl,v⟩:=ki r;cases v;rcases h with⟨d,q⟩ | ⟨d,q⟩
 ·obtain⟨f,g,pl,j⟩:=I.list d;have B:=g.length;refine call_tuple_list pl.isList (λi w=>?_) (by grind)
  have k:=I.kept (t':=s.toks) w;have x:Inv X m t (dj H i.objs.size (.aq c)) {s with heap:=i.push {cls:=.type "tuple",data:=.seq f.toArray}} :=
   k.laid (λb o e=>bA _ e) (au _) (⟨j,f,g,IsTup.new _ _⟩)
  exact⟨.ref i.objs.size,_,x,rfl,q _ (k.hok.fresh (au _))⟩
 ·obtain⟨f,g,pl,j⟩:=I.tuple d;exact call_tuple_same pl ⟨.ref p,H,I,rfl,q⟩
def tyV(K:W.Frag)(T:String)(x:V)(H:Hp):Prop:=match x with
 | .str _=>T="str"
 | .int _=>T="int"
 | .ref p=>(T="list"/\∃d,yL K H p d)\/(T="tuple"/\∃o,K.lookup p=some o/\o.cls=.type "tuple"/\o.dict=none) \/
   (T="dict"/\((∃c,H p=some (.dK c))\/∃c,H p=some (.dT c)))\/(T="set"/\∃S n,H p=some (.set S n))
 | _=>False
def LW{j:List (Addr×Obj)}{k:St}{H:Hp}{s:Shared}{T:String}{x:V}{v:Value}(I:Inv X j k H s)(r:RelV x v)(ty:tyV X.K T x H) :
  s.TypeIs v T/\∀a,v=.ref a->∃g,s.heap.get? a=some g/\g.dict=none:=by
 cases x with
 | str z =>
  obtain⟨t,rfl⟩:=r;cases(ty);exact⟨typeIs_str s z t,λ_ e=>nomatch e⟩
 | int i =>
  obtain⟨t,rfl⟩:=r;cases(ty);exact⟨typeIs_int s i t,λ_ e=>nomatch e⟩
 | ref p =>
  cases r;rcases ty with⟨rfl,xs,l⟩ | ⟨rfl,o,hk,hc,hd⟩ | ⟨rfl,hk⟩ | ⟨rfl,S,n,hk⟩
  ·obtain⟨m,_,pl,_⟩:=I.list l;refine⟨pl.isList.typeIs,λa e=>?_⟩
   cases e;obtain⟨o,n,e,c,hd,_⟩:=pl;exact⟨o,e,hd⟩
  ·refine⟨⟨o,I.tZ p o hk,hc⟩,λa e=>?_⟩
   cases e;exact⟨o,I.tZ _ o hk,hd⟩
  ·have z:∃o,s.heap.get? p=some o/\o.ExactDict:=by
    rcases hk with⟨d,hk⟩ | ⟨d,hk⟩
    ·obtain⟨_,_,_,_,o,_,_,e,ex,_⟩:=I.hok p _ hk;exact⟨o,e,ex⟩
    ·obtain⟨_,_,o,_,_,e,ex,_⟩:=(I.hok p _ hk);exact⟨o,e,ex⟩
   obtain⟨o,e,ex⟩:=z;refine⟨⟨o,e,ex.1⟩,λa f=>?_⟩
   cases f;exact⟨o,e,ex.2.1⟩
  ·obtain⟨o,_,_,_,e,ex,_⟩:=I.hok p _ hk;refine⟨⟨o,e,ex.1⟩,λa f=>?_⟩
   cases f;exact⟨o,e,ex.2.1⟩
 | _=>exact False.elim ty
def aai(K:W.Frag)(T:String)(r:V->List V->Hp->VK->Prop)(to:TE):TE:=λd H Q=>to d H λx c=>tyV K T x c/\r x [] c Q
def tBM(K:W.Frag)(T:String)(r:V->List V->Hp->VK->Prop)(to:TE)(t:TA):TE:=λc H Q=>to c H λx d=>tyV K T x d/\t c d λe f=>r x e f Q
variable {o e:Expr} {es:List Expr} {to:TE} {t:TA} {name:Str} {tP lU:Pos} {T id:String} {r:V->List V->Hp->VK->Prop}
def LX(j:PlainAttrs T)(slot:Slot T name id)(c:typeOf (.builtin id)=pure (.type "method_descriptor"))(k:MtR X id r)(ho:PE X o to)
  (l:attributeBase o name X.env (eval o X.env)=eval o X.env:=by rfl) (m:(tP.endLine==lU.line)=true:=by rfl):PE X (.Call (.Attribute o name tP) [] [] lU) (aai X.K T r to):=by
 intro d s f H Q I h;refine wpAny_Call_method0_late l m (thn (ho d s f H _ I h) λv p q=>?_)
 obtain⟨x,u,g,i,ty,w⟩:=q;obtain⟨y,B⟩:=LW g i ty;exact⟨T,id,j,slot,c,y,B,Calls.callWith_builtin rfl (PySem.evalArgs_none (k d p f u x [] v [] Q g i .nil w))⟩
def GR(k:PlainAttrs T)(slot:Slot T name id)(c:typeOf (.builtin id)=pure (.type "method_descriptor"))(l:MtR X id r)(ho:PE X o to)(m:PA X (e::es) t)
  (p:attributeBase o name X.env (eval o X.env)=eval o X.env:=by rfl)
  (q:((backTo lU (starEach (e::es) X.env)).all (λx=>!x.1)&&(backToKw lU (keywordEach [] X.env)).all (λx=>x.1.isSome)
   && decide ((e::es).length+([]:List Keyword).length+(if([]:List Keyword).isEmpty then 0 else 1)<30))=true:=by rfl)
  (u:(tP.endLine==lU.line)=true:=by rfl) (w:starEach (e::es) X.env=(false,eval e X.env)::starEach es X.env:=by rfl) (y:(backTo lU (starEach es X.env)).any (·.1)=false:=by rfl) :
  PE X (.Call (.Attribute o name tP) (e::es) [] lU) (tBM X.K T r to t):=by
 intro d s f H Q I h;refine wpAny_Call_method_late p q u rfl (thn (ho d s f H _ I h) λv B C=>?_)
 obtain⟨x,D,g,i,ty,E⟩:=C;obtain⟨J,L⟩:=LW g i ty;refine⟨T,id,k,slot,c,J,L,?_⟩;have j:=m lU d B f D _ g E;rw[w]at j ⊢;refine Calls.callWith_builtin (by grind) (Calls.evalArgs_plain ?_)
 exact thn j (by rintro us s2 ⟨M,N,R,Y,Z⟩;exact l d s2 f N x M v us Q R i Y Z)
end
def MtM(X:Cx)(id:String)(r:V->List V->Hp->VK->Prop):Prop :=
 ∀(a:List (Addr×Obj)) (s:Shared) (σ:St) (H:Hp) (x:V) (xs:List V) (v:Value) (us:List Value) (Q:VK),Inv X a σ H s->RelV x v->Vals xs us->r x xs H Q ->
  wpAny (model X.prog X.w) X.A (call (.builtin id) (v::us)) (EP X a σ Q) X.xe s
theorem Vals.one:∀{x:V} {us:List Value},Vals [x] us->∃u,us=[u]/\RelV x u
 | _,_,.cons r .nil=>⟨_,rfl,r⟩
def Vals.two{x y:V}{a:List Value}(h:Vals [x,y] a):∃u v,a=[u,v]/\RelV x u/\RelV y v:=by
 cases h with
 | cons r h=>cases h with
  | cons q h=>cases h;exact⟨_,_,rfl,r,q⟩
theorem Vals.zero:∀{a:List Value},Vals [] a->a=[]
 | _,.nil=>rfl
def Vals.reverse(h:Vals xs us):Vals xs.reverse us.reverse:=by
 induction h with
 | nil=>exact .nil
 | cons r t ih=>rw[yo,yo];exact Vals.append ih (.cons r .nil)
section
variable {X:Cx} {ae:List (Addr×Obj)} {σ:St} {H:Hp} {s:Shared} {l b:Addr} {xs ys zs:List V}
def Inv.P6{c a:List Value}{n:Nat}{f:Array Value->Array Value}{t':Nat}(I:Inv X ae σ H s)(d:H l=some (.lst xs))
  (e:s.heap.get? l=some {cls:=.type "list",data:=.seq c.toArray n}) (g:f c.toArray=a.toArray) (j:Vals ys a) (k:ys.length<=sizeLine) :
  Inv X ae σ (dj H l (.lst ys)) {s with heap:=s.heap.update l (Obj.mapSeq f),toks:=t'}:=by
 have q:=PySem.IsL.update e f;rw[g]at q;refine I.write (by rw[d];exact trivial) (.inl rfl) (λp u m o=>(ye s.heap (Obj.mapSeq f) (ee m)).trans o) ⟨_,q⟩ ?_
 exact⟨k,a,_,j,q⟩
def Inv.aeW(I:Inv X ae σ H s)(c:Vals ys a)(d:ys.length<=sizeLine) :
  Inv X ae σ (dj H s.heap.objs.size (.lst ys)) {s with heap:=s.heap.push {cls:=.type "list",data:=.seq a.toArray},toks:=t'} :=
 I.laid (λ_ _ q=>bA _ q) (au _) ⟨d,a,0,c,cU _ rfl⟩
def Inv.fresh(I:Inv X ae σ H s):H s.heap.objs.size=none:=I.hok.fresh (au _)
def Inv.iB(I:Inv X ae σ H s)(c:H l=some (.lst xs)):xs.length<=sizeLine/\∃(a:List Value) (n:Nat),Vals xs a/\xs.length=a.length/\s.heap.get? l=some {cls:=.type "list",data:=.seq a.toArray n}:=by
 obtain⟨z,a,n,r,e⟩:=I.hok l _ c;exact⟨z,a,n,r,r.length,e⟩
def LY(h:n<=sizeLine):Builtin.List.listTooLong n=false:=by
 unfold Builtin.List.listTooLong;exact iu (by lia)
end
section
variable {X:Cx}
def GS:V->List V->Hp->VK->Prop:=λx b H Q=>∃l a y,x=.ref l/\b=[y]/\H l=some (.lst a)/\a.length<sizeLine/\Q .cf (dj H l (.lst (a++[y])))
def IM:MtM X "list.append" GS:=by
 intro g s i H x j v k Q I b c h;obtain⟨l,m,y,rfl,rfl,a,o,q⟩:=h;cases b;obtain⟨u,rfl,d⟩:=c.one;obtain⟨z,f,n,r,p,e⟩:=I.iB a;refine mT F.slot_list_append ⟨_,e,rfl⟩ F.entry_list_append (F.args_list_append_2 _ _) (PySem.list_append l f.toArray n u (by grind)) ⟨e,?_⟩
 refine⟨.cf,_,I.P6 a e (by simp) (r.append (.cons d .nil)) ?_,rfl,q⟩
 rw[bK,List.length_singleton]
 lia
def Bg:V->List V->Hp->VK->Prop:=λx b H Q=>∃l a,x=.ref l/\b=[]/\H l=some (.lst a)/\Q .cf (dj H l (.lst a.reverse))
def EF:MtM X "list.reverse" Bg:=by
 intro g s i H x j v k Q I c d h;obtain⟨l,m,rfl,rfl,b,q⟩:=h;cases c;have a:=d.zero;subst a;obtain⟨z,f,n,r,o,e⟩:=I.iB b;refine mT F.slot_list_reverse ⟨_,e,rfl⟩ F.entry_list_reverse (F.args_list_reverse_1 _) (AutoSeq1.list_reverse_list_0 l f.toArray n (by grind)) ⟨e,?_⟩
 refine⟨.cf,_,I.P6 b e (by simp) r.reverse ?_,rfl,q⟩
 rw[List.length_reverse]
 lia
end
end L2
namespace Att
open PySem PySem.W PySem.Calls PyProof.Rows
def rm:∀(c:List Int) (vs:List Value),WellAll P h vs (c.map WData.int)->IntsAre vs c:=by
 intro c;induction c with
 | nil =>
  intro vs w;rw[pO]at w;cases w;exact .nil
 | cons n c ih =>
  intro vs w;rw[aH]at w;cases w with
  | cons a b =>
   cases a;exact .cons _ _ (ih _ b)
def IP{l:OpenLaw}(k:l.most=some n) 
  (j:l.row.toRowW.claim.pre args=true) (f:WellAll P h g args) :
  ∃a vs b,g=[Value.ref a]/\args=[WData.list (b.map WData.int)]/\h.get? a=some {cls:=.type "list",data:=.seq vs.toArray}/\IntsAre vs b/\b.length<=n:=by
 have i:=(pre_splitW j).1;have hc:l.pre.holds [] {args:=args}=true:=(pre_splitW j).2
 obtain⟨d,r,rfl,m,o⟩:=hasAllW_cons i;obtain rfl:=hasAllW_nil o;obtain⟨y,rfl,p⟩:=hasW_list m;obtain⟨b,rfl⟩:=items_int p;have t:b.length<=n:=by
  unfold OpenLaw.pre at hc;have c:(WTm.not (.lt (.lit (.int n)) (.len (.arg 0)))).holds [] {args:=[.list (b.map .int)]}=true:=by
   have c:=(holds_andW hc).1;rw[k]at c;exact c
  have e:=condW_of c (w_not (w_lt w_lit (w_len_list (w_arg rfl))));rw[aD]at e;refine pG λq=>?_
  have u:n<(b.length:Nat):=by lia
  first
   | (rw[dq u]at e;exact absurd e (by decide))
   | (simp at e;lia)
 cases f with
 | cons v w =>
  cases w;cases v with
  | list ho x=>exact⟨_,_,b,rfl,rfl,ho,rm b _ x,t⟩
def IS(l:OpenLaw)(args:List WData):l.row.toRowW.claim.post args (.bool true) args=true :=
 postW_of
  (show WShape.has [] (.bool true) .bool=true by first | rfl | decide | simp[WShape.has,WShape.arms,WShape.armsAll])
  (w_eq_bool (w_res rfl) w_lit) rfl
def Bh{l:OpenLaw}{n:Nat}{loose:List Str}{XP:(Str->Option Value)->Heap->Prop}{YP:World->Heap->Prop}{d:DefRec}
  (u:l.most=some n) (j:d.params.defaults=[])
  (call:∀(w:World) (s₀ b:Shared) (e k:Str->Option Value) (fa:Addr) (o:Obj) (m cd c:Value) (a:Addr) (vs:List Value) (g:List Int),
   Ground q loose [] XP w s₀ e k b.heap->YP w b.heap ->
   b.heap.get? fa=some o->o.data=.func (docDef d.name d.params d.body d.scope m cd c)->b.heap.CodeRec cd d.name->e d.name=some (.ref fa) ->
   b.heap.get? a=some {cls:=.type "list",data:=.seq vs.toArray}->IntsAre vs g->g.length<=n->b.gens=#[] ->
   codeAny (model l.prog w) callerA (.call (.ref fa) ⟨[.ref a],[]⟩) (λr i=>r=.ok (.ret (.bool true))/\OldK b.heap i.heap/\i.os=b.os/\AllBare i.gens) b) :
  WalkO q loose XP YP l.row.toRowW d [] (λf vs=>PySem.call f vs):=by
 intro w s₀ b e k G Y fa o m cd c v kV ho hd x t y B args C as D E H p I;obtain rfl:v=.none:=Dflts.none t j;obtain rfl:kV=.none:=Dflts.noKw t;obtain⟨a,vs,g,rfl,rfl,J,L,M⟩:=IP u D p;refine enter_call (kJ (call w s₀ b e k fa o m cd c a vs g G Y ho (fd_plain hd) x y J L M B) λr i N=>?_)
 obtain⟨rfl,Q,R,T⟩:=N;exact⟨.inl ⟨.bool true,.bool true,[],rfl,λ_=>rfl,.bool true,IS l _,λ_=>⟨List.Pairwise.nil,λ_ X=>(nomatch X)⟩⟩,Q,R,T⟩
end Att
namespace L2
open PySem PySem.Spec PyProof.Rows
theorem w5:∀{vs:List Value} {ns:List Int},IntsAre vs ns->Vals (ns.map V.int) vs
 | _,_,.nil=>.nil
 | _,_,.cons n t h=>.cons ⟨t,rfl⟩ (w5 h)
def IT{P:Program}{w:World}{K:W.Frag}{l L:Str->Option Value}{CX:Ky}{k:Nat}{fa a:Addr}{fd:FuncData}{x:Str}{sp:Sp}{c:Shared}{vs:List Value}{i:List Int}{tabs:List (Addr×Str)}
  (KX:K.In c.heap) (L3:c.heap.Ns mainGlobals l) (M:c.heap.Ns builtinsNs L) (N:∀x:Str,x≠"__name__"->L x=bootBuiltins x) (P9:c.heap.NoLimit) (hg:c.gens=#[])
  (Q:∀b q,tabs.lookup b=some q->c.heap.get? b=some {cls:=.none,data:=.fields #[]}/\isCodeTable c.heap b/\K.lookup b=none) (R:∀H:Hp,(∀b q,tabs.lookup b=some q->H b=some (.Eh q))->tY K H)
  (C:c.heap.get? a=some {cls:=.type "list",data:=.seq vs.toArray}) (hi:IntsAre vs i) (hl:i.length<=sizeLine) (hr:dW k callerA)
  (F:∀f:Heap,K.In f->f.Ns mainGlobals l->FnOk P w K l f CX k fa fd [x] sp) (T:∀(s:Shared) (u:Value),BindsTo s fd ⟨[u],[]⟩ [(x,u)])
  (PR:∀H:Hp,lF K H a (i.map V.int)->sp [.ref a] H (λv _=>v=.bl true) λ_ _ _=>False) (X:∀H e j,CX [] H c (λ_ _ _=>False) e j->False) :
  codeAny (model P w) callerA (.call (.ref fa) ⟨[.ref a],[]⟩) (λr j=>r=.ok (.ret (.bool true))/\OldK c.heap j.heap/\j.os=c.os/\AllBare j.gens) c:=by
 have rv:=w5 hi;have gA:=hi.length
 let D:Obj:={cls:=.type "list",data:=.seq vs.toArray}
 let H:Hp:=λb=>if b=a/\K.lookup a=none then some (.qy D (.lst (i.map V.int)))else(tabs.lookup b).map HO.Eh
 have Y:∀b,H b=if b=a/\K.lookup a=none then some (.qy D (.lst (i.map V.int)))else(tabs.lookup b).map HO.Eh:=λ_=>rfl
 have Z:∀b q,tabs.lookup b=some q->H b=some (.Eh q):=λb q e=>by
  grind
 have E:∀b u,H b=some u->(b=a/\K.lookup a=none/\u=.qy D (.lst (i.map V.int)))\/∃q,tabs.lookup b=some q/\u=.Eh q:=λb u e=>by
  rw[Y]at e;by_cases h:b=a/\K.lookup a=none
  ·grind
  ·rw[if_neg h]at e;cases z:tabs.lookup b with
   | none=>rw[z]at e;cases e
   | some q=>rw[z]at e;cases e;exact .inr ⟨q,rfl,rfl⟩
 have hS:lF K H a (i.map V.int):=by
  cases hk:K.lookup a with
  | some o =>
   have e:=KX a o hk;rw[C]at e;cases e;exact .inr ⟨vs,_,hk,by grind,rv⟩
  | none=>exact .inl (.inr ⟨D,by grind⟩)
 have hok:mU P w H c.heap:=λb u e=>by
  rcases E b u e with⟨rfl,_,rfl⟩ | ⟨q,hq,rfl⟩
  ·exact⟨C,by grind,vs,_,rv,C⟩
  ·exact⟨#[],(Q b q hq).1,trivial,λpos cv z=>by cases z⟩
 have noD:∀{b:Addr} {o:Obj} {I:Array DictEntry} {J:Nat},c.heap.get? b=some o->o.data=.dict I J->H b=none:=λ{b o I J} e d=>by
  cases q:H b with
  | none=>rfl
  | some u =>
   rcases E b u q with⟨rfl,_,_⟩ | ⟨t,ht,_⟩
   ·grind
   ·grind
 have g:∀{b:Addr} {m:Str->Option Value},c.heap.Ns b m->(A5 c.heap H).Ns b m:=λ{b m} ⟨o,I,J,e,d,r⟩=>⟨o,I,J,hidT_get e (noD e d),d,r⟩
 have p:K.In (A5 c.heap H):=λb o e=>hidT_get (KX b o e) (by
  cases q:H b with
  | none=>rfl
  | some u =>
   rcases E b u q with⟨rfl,z,_⟩ | ⟨t,ht,_⟩
   ·grind
   ·rw[(Q b t ht).2.2]at e;cases e)
 have hM:Mod K l (A5 c.heap H):=⟨p,g L3,⟨L,g M,N⟩,let ⟨mc,h1,h2⟩:=P9;⟨mc,g h1,h2⟩⟩
 have e0:Env0 P w K l (A5 c.heap H) callerA [] c H:=⟨rfl,hM,λb o e=>of_hidT e,gS (IE _ _),trivial,λb M=>absurd (show b∈([]:List Addr)from M) (by simp),hok,.of_eq hg,R H Z⟩
 refine kJ ((F _ p (g L3)).run callerA [] c H ⟨[.ref a],[]⟩ [.ref a] [.ref a] _ _ hr e0 (T c (.ref a)) (.cons rfl .nil) (PR H hS)) λr j h=>?_
 cases r with
 | error e=>exact(X H e j h).elim
 | ok fl =>
  cases fl with
  | next=>exact False.elim h
  | brk=>exact False.elim h
  | cont=>exact False.elim h
  | ret u =>
   obtain⟨v,H',os,y,un,B,r',q⟩:=h;have q':=q;subst q';obtain rfl:u=Value.bool true:=r';have noF:∀b:Addr,b∉pW []:=λb z=>absurd (show b∈([]:List Addr)from z) (by simp)
   refine⟨rfl,⟨λb o e=>?_,λb o e=>un.there b o e (by simp)⟩,os,y⟩
   cases q:H b with
   | none=>exact .inl (un.keep b o e q (noF b) (by simp))
   | some u =>
    rcases E b u q with⟨rfl,_,rfl⟩ | ⟨t,ht,rfl⟩
    ·obtain⟨e2,_⟩:=B b _ (un.frzs b _ _ q);rw[C]at e;cases e;exact .inl e2
    ·obtain⟨h1,h2,_⟩:=Q b t ht;obtain⟨ps,e2,_⟩:=(B b _ (un.tbls b _ q));rw[h1]at e;cases e;exact .inr (.inl ⟨h2,rfl,#[],ps,rfl,by grind⟩)
abbrev E0:XK:=λ_ _ _=>False
def cX(H H':Hp):Prop:=∀b o,H b=some o->H' b=some o
def cX.refl(H:Hp):cX H H:=λ_ _ h=>h
def cX.trans(a:cX H H1)(b:cX H1 d):cX H d:=λc o h=>b c o (a c o h)
def cX.free(e:cX H H')(h:H' l=Option.none):H l=Option.none:=by
 cases q:H l with
 | none=>rfl
 | some o =>
  rw[e l o q]at h;cases h
def cX.seq{K:W.Frag}{H H':Hp}{a:Addr}{xs:List V}(e:cX H H')(h:yL K H a xs):yL K H' a xs:=by
 rcases h with(h | ⟨o,h⟩) | h
 ·exact .inl (.inl (e _ _ h))
 ·exact .inl (.inr ⟨o,e _ _ h⟩)
 ·exact .inr h
end L2
namespace OU
open PySem PyProof PyProof.Rows
section
variable {prog:Program} {w:World} {A:Around} {E:Value->Shared->Prop} {s:Shared}
def cg{arr:Array Keyed}{i:Nat}{x:Keyed}{Q:Keyed->SortSt->Prop}{st:SortSt}(a:arr[i]?=some x)(h:Q x st):wpS (model prog w) A E s (elem' arr i) Q st:=by
 rw[elem'_eq,a];exact aA h
def isI(x:Keyed):Prop:=∃n t,x.1=.int n t
def Bi{x y:Keyed}{Q:Option Bool->SortSt->Prop}{st:SortSt}(hk:kindOf st=oneType')(e:isI x)(f:isI y) (h:Q (some (decide (numOf x.1<numOf y.1))) st):wpS (model prog w) A E s (lt' x y) Q st:=by
 obtain⟨a,t,c⟩:=e;obtain⟨b,u,d⟩:=f;rw[lt'_eq];refine ai (fB ?_);rw[hk,keyLt'_oneType,c,d];rw[c,d]at h;exact ai (kO (yC (oneLt_int ⟨rfl,aA h⟩)))
def gg{arr:Array Keyed}(h:IntKeys arr){i:Nat}{x:Keyed}(a:arr[i]?=some x):isI x:=h x (by
 grind)
def fO{arr:Array Keyed}{i:Nat}(a:i<arr.size):∃x,arr[i]?=some x/\K arr i=numOf x.1:=⟨arr[i],sQ a,K_eq a⟩
noncomputable def bey(left:Bool)(a:Keyed)(arr:Array Keyed)(b i:Nat):StateT SortSt Sem (Option Bool):=do
 let x <-elem' arr (b+i)
 if left then lt' x a else return (<-lt' a x).map (!·)
noncomputable def Bv(left:Bool)(b:Keyed)(arr:Array Keyed)(a i:Nat):Bool:=if left=true then decide (K arr (a+i)<numOf b.1)else !decide (numOf b.1<K arr (a+i))
def ug{left:Bool}{b:Keyed}{arr:Array Keyed}{a i:Nat}{Q:Option Bool->SortSt->Prop}{st:SortSt}(hk:kindOf st=oneType')(d:IntKeys arr)(f:isI b)(g:a+i<arr.size)(h:Q (some (Bv left b arr a i)) st):wpS (model prog w) A E s (bey left b arr a i) Q st:=by
 obtain⟨x,c,e⟩:=fO g;unfold Bv at h;rw[e]at h;refine ai (cg c ?_);cases left with
 | true=>exact Bi hk (gg d c) f h
 | false=>exact ai (Bi hk f (gg d c) (aA h))
def jY:Bool->Keyed->Array Keyed->Nat->Nat->Nat->StateT SortSt Sem (Option Nat):=sortPriv% PySem.Builtin.gallop
def ij{left:Bool}{d:Keyed}{arr:Array Keyed}{a n b:Nat}{Q:Option Nat->SortSt->Prop}{st:SortSt}(hk:kindOf st=oneType')(H:IntKeys arr)(J:isI d)(hb:a+n<=arr.size)(hh:b<n)
  (mono:∀i j,i<=j->j<n->Bv left d arr a j=true->Bv left d arr a i=true)
  (h:∀r,r<=n->(∀i,i<r->Bv left d arr a i=true)->(∀i,r<=i->i<n->Bv left d arr a i=false)->Q (some r) st):wpS (model prog w) A E s (jY left d arr a n b) Q st:=by
 have down:∀i j,i<=j->j<n->Bv left d arr a i=false->Bv left d arr a j=false:=λi j u y T=>by
  grind
 have bin:∀(lo k:Nat),lo<=k->k<=n->(∀i,i<lo->Bv left d arr a i=true)->(∀i,k<=i->i<n->Bv left d arr a i=false)->∀{f:Nat->Option (Option Nat)×Nat×Nat->StateT SortSt Sem (ForInStep (Option (Option Nat)×Nat×Nat))} {g:Option (Option Nat)×Nat×Nat->StateT SortSt Sem (Option Nat)},
   (∀x lo k,lo>=k->f x (none,lo,k)=pure (.done (none,lo,k))) ->
   (∀x lo k,¬lo>=k->∀(P:ForInStep (Option (Option Nat)×Nat×Nat)->SortSt->Prop),(Bv left d arr a (lo+(k-lo)/2)=true->P (.yield (none,lo+(k-lo)/2+1,k)) st)->(Bv left d arr a (lo+(k-lo)/2)=false->P (.yield (none,lo,lo+(k-lo)/2)) st)->k<=n->wpS (model prog w) A E s (f x (none,lo,k)) P st) ->
   (∀lo k,g (none,lo,k)=pure (some k)) ->
   wpS (model prog w) A E s (forIn [0:n] (none,lo,k) f >>= g) Q st:=λlo k u y T Z f g L M hg=>by
  refine ai (d9 (d8
   (I:=λx c o=>o=st/\∃lo k,c=(none,lo,k)/\lo<=k/\k<=n/\k-lo<=n-x/\(∀i,i<lo->Bv left d arr a i=true)/\(∀i,k<=i->i<n->Bv left d arr a i=false))
   (Q:=λc o=>o=st/\∃k,c=(none,k,k)/\k<=n/\(∀i,i<k->Bv left d arr a i=true)/\(∀i,k<=i->i<n->Bv left d arr a i=false)) ?step ?fin ⟨rfl,lo,k,rfl,u,y,by lia,T,Z⟩) ?post)
  case fin =>
   rintro c o ⟨rfl,lo,k,rfl,t,B,q,p,C⟩
   have:lo=k:=by lia
   subst this;exact⟨rfl,lo,rfl,B,p,C⟩
  case post =>
   rintro c o ⟨rfl,k,rfl,B,p,C⟩
   rw[hg];exact aA (h k B p C)
  case step =>
   rintro x c o _ X ⟨rfl,lo,k,rfl,t,B,q,p,C⟩
   by_cases D:lo>=k
   ·rw[L x lo k D];have:lo=k:=by lia
    subst this;exact aA ⟨rfl,lo,rfl,B,p,C⟩
   ·refine M x lo k D _ (λe=>⟨rfl,_,_,rfl,by lia,by lia,by lia,λi hi'=>mono i _ (by lia) (by lia) e,C⟩) (λe=>⟨rfl,_,_,rfl,(fZ _ _),by lia,by lia,p,λi u y=>down _ i u y e⟩) B
 refine ai (ug hk H J (by lia) ?_)
 dsimp only
 cases Y:Bv left d arr a b with
 | true =>
  rw[if_pos rfl];refine ai (d9 (d8
   (I:=λx c o=>o=st/\∃l of,c=(none,l,of)/\l<of/\x<of/\b+l<n/\Bv left d arr a (b+l)=true)
   (Q:=λc o=>o=st/\∃l of,c=(none,l,of)/\l<of/\b+l<n/\Bv left d arr a (b+l)=true/\(∀i,b+min of (n-b)<=i->i<n->Bv left d arr a i=false)) ?step ?fin ⟨rfl,0,1,rfl,(au _),(au _),by lia,Y⟩) ?post)
  case fin =>
   rintro c o ⟨rfl,l,of,rfl,t,B,q,p⟩
   exact⟨rfl,l,of,rfl,t,q,p,λi u y=>by lia⟩
  case step =>
   rintro x c o _ X ⟨rfl,l,of,rfl,t,B,q,p⟩
   dsimp only
   by_cases ho:of>=n-b
   ·rw[if_pos ho];exact aA ⟨rfl,l,of,rfl,t,q,p,λi u y=>by lia⟩
   ·rw[if_neg ho];refine ai (m:=bey left d arr a (b+of)) (ug hk H J (by lia) ?_)
    dsimp only
    cases v:Bv left d arr a (b+of)with
    | true=>exact aA ⟨rfl,of,2*of+1,rfl,by lia,by lia,by lia,v⟩
    | false=>exact aA ⟨rfl,l,of,rfl,t,q,p,λi u y=>down _ i (by lia) y v⟩
  case post =>
   rintro c o ⟨rfl,l,of,rfl,t,q,p,C⟩
   dsimp only
   refine bin _ _ (by lia) (by lia) (λi k=>mono i _ (by lia) q p) C (λx lo k D=>?_) (λx lo k D P N R hn=>?_) (λlo k=>rfl)
   ·grind
   ·dsimp only
    rw[if_neg D];refine ai (m:=bey left d arr a _) (ug hk H J (by lia) ?_)
    dsimp only
    cases v:Bv left d arr a (lo+(k-lo)/2)with
    | true=>exact aA (N v)
    | false=>exact aA (R v)
 | false =>
  rw[if_neg (by simp)]
  refine ai (d9 (d8
   (I:=λx c o=>o=st/\∃l of,c=(none,l,of)/\l<of/\x<of/\l<=b/\Bv left d arr a (b-l)=false)
   (Q:=λc o=>o=st/\∃l of,c=(none,l,of)/\l<of/\l<=b/\Bv left d arr a (b-l)=false/\(∀i,i<b+1-min of (b+1)->Bv left d arr a i=true)) ?step ?fin ⟨rfl,0,1,rfl,(au _),(au _),(dE _),Y⟩) ?post)
  case fin =>
   rintro c o ⟨rfl,l,of,rfl,t,B,q,p⟩
   exact⟨rfl,l,of,rfl,t,q,p,λi u=>by lia⟩
  case step =>
   rintro x c o _ X ⟨rfl,l,of,rfl,t,B,q,p⟩
   dsimp only
   by_cases ho:of>=b+1
   ·rw[if_pos ho];exact aA ⟨rfl,l,of,rfl,t,q,p,λi u=>by lia⟩
   ·rw[if_neg ho];refine ai (m:=bey left d arr a (b-of)) (ug hk H J (by lia) ?_)
    dsimp only
    cases v:Bv left d arr a (b-of)with
    | true=>exact aA ⟨rfl,l,of,rfl,t,q,p,λi u=>mono i _ (by lia) (by lia) v⟩
    | false=>exact aA ⟨rfl,of,2*of+1,rfl,by lia,by lia,(pG ‹_›),v⟩
  case post =>
   rintro c o ⟨rfl,l,of,rfl,t,q,p,C⟩
   dsimp only
   refine bin _ _ (by lia) (by lia) C (λi u y=>down _ i u y p) (λx lo k D=>?_) (λx lo k D P N R hn=>?_) (λlo k=>rfl)
   ·dsimp only;rw[if_pos D]
   ·dsimp only
    rw[if_neg D];refine ai (m:=bey left d arr a _) (ug hk H J (by lia) ?_)
    dsimp only
    cases v:Bv left d arr a (lo+(k-lo)/2)with
    | true=>exact aA (N v)
    | false=>exact aA (R v)
abbrev ky(x:Keyed):Int:=numOf x.1
abbrev le(x y:Keyed):Prop:=ky x<=ky y
abbrev ge(x y:Keyed):Prop:=ky y<=ky x
section
variable {R:Keyed->Keyed->Prop}
structure G (R:Keyed->Keyed->Prop) (a b out:List Keyed) (ia ib:Nat):Prop where
 perm:out.Perm (a.take ia++b.take ib)
 up:out.Pairwise R
 ga:∀x∈out,∀y∈a.drop ia,R x y
 gb:∀x∈out,∀y∈b.drop ib,R x y
def G.symm{a b out:List Keyed}{c d:Nat}(g:G R a b out c d):G R b a out d c:=⟨g.perm.trans yg,g.up,g.gb,g.ga⟩
def GU{a:List Keyed}{i:Nat}{x:Keyed}(h:a[i]?=some x):a.drop i=x::a.drop (i+1):=by
 obtain⟨b,rfl⟩:=cS.mp h;exact sP b
def TX{a:List Keyed}(c:a.Pairwise R){i:Nat}{x:Keyed}(h:a[i]?=some x):∀y∈a.drop (i+1),R x y:=by
 have b:(a.drop i).Pairwise R:=D0 c;rw[GU h]at b;exact(ym.mp b).1
def G.push{a b out:List Keyed}{e f:Nat}(g:G R a b out e f)(j:a.Pairwise R){x:Keyed}(i:a[e]?=some x)(k:∀y∈b.drop f,R x y):G R a b (out++[x]) (e+1) f:=by
 have hd:=GU i;refine⟨?_,?_,?_,?_⟩
 ·rw[D5,i];show(out++[x]).Perm (a.take e++[x]++b.take f);refine(g.perm.append_right [x]).trans ?_;rw[cC,cC];exact yg.append_left _
 ·refine sX.mpr ⟨g.up,List.pairwise_singleton _ _,λy c z d=>?_⟩
  rw[aG]at d;subst d;exact g.ga y c z (by grind)
 ·intro y c z d;rcases bB.mp c with c | c
  ·exact g.ga y c z (by grind)
  ·rw[aG]at c;subst c;exact TX j i z d
 ·intro y c z d;rcases bB.mp c with c | c
  ·exact g.gb y c z d
  ·grind
theorem G.more{a b out:List Keyed}{c d:Nat}(g:G R a b out c d)(j:a.Pairwise R):∀(k:Nat),c+k<=a.length->(∀(i:Nat) (x:Keyed),i<k->a[c+i]?=some x->∀y∈b.drop d,R x y)->G R a b (out++(a.drop c).take k) (c+k) d
 | 0,_,_=>by simpa using g
 | k+1,hk,h=>by
  have l:=g.more j k (dN ‹_›) λi x o=>h i x (fj ‹_›)
  obtain⟨x,f⟩:∃x,a[c+k]?=some x:=⟨_,b7 (by lia)⟩
  have m:=l.push j f (h k x (au _) f);have e:(a.drop c).take (k+1)=(a.drop c).take k++[x]:=by
   rw[D5,List.getElem?_drop,f];rfl
  rw[e,<-cC];exact m
def jm(R:Keyed->Keyed->Prop)(a b r:List Keyed):Prop:=r.Perm (a++b)/\r.Pairwise R
def jm.symm{a b r:List Keyed}(g:jm R a b r):jm R b a r:=⟨g.1.trans yg,g.2⟩
def G.fin{a b out:List Keyed}{d f:Nat}(g:G R a b out d f)(j:a.Pairwise R)(k:b.Pairwise R)(h:∀x∈a.drop d,∀y∈b.drop f,R x y):jm R a b (out++a.drop d++b.drop f):=by
 refine⟨?_,?_⟩
 ·refine((g.perm.append_right _).append_right _).trans ?_;have e:a++b=(a.take d++a.drop d)++(b.take f++b.drop f):=by simp_all
  rw[e,cC,cC,cC];refine List.Perm.append_left _ ?_;rw[<-cC,<-cC];exact yg.append_right _
 ·refine sX.mpr ⟨sX.mpr ⟨g.up,D0 j,λx c y i=>g.ga x c y i⟩,D0 k,λx c y i=>?_⟩
  rcases bB.mp c with c | c
  ·exact g.gb x c y i
  ·grind
end
def up(l:List Keyed):Prop:=l.Pairwise le
def L4{a b r:List Keyed}(g:jm ge a.reverse b.reverse r):jm le a b r.reverse:=by
 refine⟨(D2 r).trans (g.1.trans ((D2 a).append (D2 b))),?_⟩;rw[List.pairwise_reverse];exact g.2
def yT{a:List Keyed}(h:up a):a.reverse.Pairwise ge:=by
 rw[List.pairwise_reverse];exact h
def Sm(st a:SortSt):Prop:=kindOf a=kindOf st/\arrOf a=arrOf st/\pendingOf a=pendingOf st/\failedOf a=failedOf st
def Bj:Array Keyed->Array Keyed->StateT SortSt Sem (Array Keyed):=sortPriv% PySem.Builtin.mergeLo
def kR(a:Array Keyed)(i:Nat):(a.extract i a.size).toList=a.toList.drop i:=by
 rw[pz,List.extract_eq_drop_take,<-da];exact yf (by grind)
def Bk(a:Array Keyed)(i k:Nat):(a.extract i (i+k)).toList=(a.toList.drop i).take k:=by
 simp_all
def nU{a:Array Keyed}{i:Nat}{x:Keyed}(h:a[i]?=some x):a.toList[i]?=some x:=by grind
def vY{a:Array Keyed}{i:Nat}{x:Keyed}(h:a[i]?=some x):K a i=ky x:=by unfold K;rw[h]
def jC{a:Array Keyed}{i:Nat}{y:Keyed}(h:y∈a.toList.drop i):∃j,i<=j/\j<a.size/\a[j]?=some y/\K a j=ky y:=by
 obtain⟨n,c,e⟩:=yh.mp h;rw[tu,da]at c;have b:a[i+n]?=some y:=by
  grind
 exact⟨i+n,(fZ _ _),by lia,b,vY b⟩
def rn{a:Array Keyed}(b:up a.toList){i j:Nat}(h:i<=j)(c:j<a.size):K a i<=K a j:=by
 obtain⟨x,d,e1⟩:=fO (arr:=a) (i:=i) (jf ‹_› ‹_›);obtain⟨y,f,g⟩:=fO c;by_cases e:i=j
 ·subst e;exact pT _
 ·rw[e1,g];refine TX b (nU d) y ?_;rw[px];exact⟨j-(i+1),by rw[List.getElem?_drop,show i+1+(j-(i+1))=j by lia];exact nU f⟩
def rV{left:Bool}{c:Keyed}{a:Array Keyed}(e:up a.toList){b n:Nat}(f:b+n<=a.size):∀i j,i<=j->j<n->Bv left c a b j=true->Bv left c a b i=true:=λi j g k d=>by
 have:=rn e (i:=b+i) (j:=b+j) (by lia) (by lia)
 unfold Bv at d ⊢;cases left with
 | true=>simp only[jl,jP]at d ⊢;lia
 | false=>simp only[tf,jR,yp,DT]at d ⊢;lia
def IU{c:Keyed}{a:Array Keyed}{b i:Nat}:(Bv true c a b i=true↔K a (b+i)<ky c)/\(Bv true c a b i=false↔ky c<=K a (b+i)):=by
 unfold Bv;simp
def IV{c:Keyed}{a:Array Keyed}{b i:Nat}:(Bv false c a b i=true↔K a (b+i)<=ky c)/\(Bv false c a b i=false↔ky c<K a (b+i)):=by
 unfold Bv;simp
def Sm.refl(st:SortSt):Sm st st:=⟨rfl,rfl,rfl,rfl⟩
section
variable {a b:Array Keyed} {st:SortSt}
abbrev lo1(a b:Array Keyed)(st:SortSt)(x:Nat)(c:Option (Array Keyed)×Array Keyed×Nat×Nat×Nat)(g:SortSt):Prop:=Sm st g/\∃d e f i,c=(none,d,e,f,i)/\G le a.toList b.toList d.toList e f/\e+1<a.size/\f<b.size/\x+1<=e+f
abbrev lq1(a b:Array Keyed)(st:SortSt)(c:Option (Array Keyed)×Array Keyed×Nat×Nat×Nat)(d:SortSt):Prop:=Sm st d/\∃r,c.1=some r/\jm le a.toList b.toList r.toList
abbrev lo2(a b:Array Keyed)(st:SortSt)(x:Nat)(y:Nat)(c:Option (Array Keyed)×Array Keyed×Nat×Nat×Nat×Nat)(g:SortSt):Prop:=Sm st g/\∃d e f i j,c=(none,d,e,f,i,j)/\G le a.toList b.toList d.toList e f/\e+1<a.size/\f<b.size/\x+1+min y 1<=e+f
abbrev lq2(a b:Array Keyed)(st:SortSt)(x:Nat)(c:Option (Array Keyed)×Array Keyed×Nat×Nat×Nat×Nat)(g:SortSt):Prop:=Sm st g/\((∃r,c.1=some r/\jm le a.toList b.toList r.toList)\/∃d e f i j,c=(none,d,e,f,i,j)/\G le a.toList b.toList d.toList e f/\e+1<a.size/\f<b.size/\x+2<=e+f)
abbrev lo3(a b:Array Keyed)(st:SortSt)(x:Nat)(y:Nat)(c:Option (Array Keyed)×Array Keyed×Nat×Nat×Nat×Nat×Nat)(g:SortSt):Prop:=Sm st g/\∃d e f i j k,c=(none,d,e,f,i,j,k)/\G le a.toList b.toList d.toList e f/\e+1<a.size/\f<b.size/\x+2<=e+f
abbrev lq3(a b:Array Keyed)(st:SortSt)(x:Nat)(c:Option (Array Keyed)×Array Keyed×Nat×Nat×Nat×Nat×Nat)(g:SortSt):Prop:=Sm st g/\((∃r,c.1=some r/\jm le a.toList b.toList r.toList)\/∃d e f i j k,c=(none,d,e,f,i,j,k)/\G le a.toList b.toList d.toList e f/\e+1<a.size/\f<b.size/\x+2<=e+f)
def bI{M:Model}{d f:Type}{c:Prop} [Decidable c] {t e:StateT d Sem f} {Q:f->d->Prop} {st:d} (h1:c->wpS M A E s t Q st) (g:¬c->wpS M A E s e Q st):wpS M A E s (if c then t else e) Q st:=by
 split
 ·exact h1 ‹_›
 ·exact g ‹_›
abbrev mgS(m:Nat)(st:SortSt):SortSt:=SortSt.mk' (kindOf st) (arrOf st) (pendingOf st) m (failedOf st)
abbrev Ze{d e:Type}(Q I:d->e->Prop)(r:ForInStep d)(f:e):Prop:=match r with | .done c=>Q c f | .yield c=>I c f
def EG{Q:Array Keyed->SortSt->Prop}(hk:kindOf st=oneType')(Wf:IntKeys a)(Wg:IntKeys b)(X:up a.toList)(Y:up b.toList)(na:0<a.size)(nb:0<b.size)
  (first:K b 0<=K a 0) (gW:∀y∈b.toList,ky y<=K a (a.size-1)) (h:∀r v,Sm st v->jm le a.toList b.toList r.toList->Q r v):wpS (model prog w) A E s (Bj a b) Q st:=by
 have pm:∀{n x y:Nat},x+2<=n->x+1+min (y+1) 1<=n:=λh=>by lia
 have uh:∀{out:Array Keyed} {i j:Nat},G le a.toList b.toList out.toList i j->(i=a.size\/j=b.size)->jm le a.toList b.toList (out++a.extract i a.size++b.extract j b.size).toList:=λ{out i j} g H=>by
  rw[jO,jO,kR,kR];refine g.fin X Y λx D y hy=>?_
  rcases H with rfl | rfl
  ·rw[<-da,yu]at D;cases D
  ·rw[<-da,yu]at hy;cases hy
 have yU:∀{out:Array Keyed} {i j:Nat},G le a.toList b.toList out.toList i j->i+1=a.size->jm le a.toList b.toList (out++b.extract j b.size++a.extract i a.size).toList:=λ{out i j} g H=>by
  rw[jO,jO,kR,kR];refine(g.symm.fin Y X λx D y hy=>?_).symm
  obtain⟨m,h1,h2,h3,h4⟩:=jC hy;have:=gW x (List.mem_of_mem_drop D);show ky x<=ky y;rw[<-h4,show m=a.size-1 by lia]
  exact this
 have pB:∀{out:Array Keyed} {i j:Nat} {J:Keyed},G le a.toList b.toList out.toList i j->b[j]?=some J->(∀m,i<=m->m<a.size->ky J<=K a m)->G le a.toList b.toList (out.push J).toList i (j+1):=λg hb H=>by
  rw[yr];exact(g.symm.push Y (nU hb) λz TY=>by
   obtain⟨m,B,t,q3,Z⟩:=jC TY;exact dt (H m B t) (jk Z)).symm
 have pA:∀{out:Array Keyed} {i j:Nat} {M:Keyed},G le a.toList b.toList out.toList i j->a[i]?=some M->(∀m,j<=m->m<b.size->ky M<=K b m)->G le a.toList b.toList (out.push M).toList (i+1) j:=λg hb H=>by
  rw[yr];exact g.push X (nU hb) λz TY=>by
   obtain⟨m,B,t,q3,Z⟩:=jC TY;exact dt (H m B t) (jk Z)
 refine ai (kO (gD ⟨rfl,?_⟩));obtain⟨b0,hb0,eb0⟩:=fO nb;refine ai (cg hb0 ?_);have g0:G le a.toList b.toList (#[b0]:Array Keyed).toList 0 1:=pB (out:=#[]) (G.mk (by simp) .nil (λ_ z=>nomatch z) (λ_ z=>nomatch z)) hb0 λm _ t=>dt (jk eb0.symm) (dt first (rn X (dE m) t))
 refine bI (λh1=>aA (h _ _ (Sm.refl st) (uh g0 (.inr (bF.mp h1))))) λh1=>?_
 refine bI (λh2=>aA (h _ _ (Sm.refl st) (yU g0 (bF.mp h2)))) λh2=>?_
 rw[bF]at h1 h2;refine ai (fB ?_);refine ai (d9 (d8
  (I:=lo1 a b st)
  (Q:=lq1 a b st) ?step ?fin ⟨Sm.refl st,_,_,_,_,rfl,g0,by lia,by lia,(au _)⟩) ?post)
 case fin =>
  rintro c v ⟨_,out,l,f,mg,_,_,u,q,N⟩
  lia
 case post =>
  rintro⟨_,c⟩ v ⟨d,r,rfl,g⟩
  exact aA (h r v d g)
 case step =>
  rintro x c v _ D ⟨d,out,l,f,mg,rfl,g,u,q,N⟩
  refine ai (d9 (d8
   (I:=lo2 a b st x)
   (Q:=lq2 a b st x) ?Bl ?L5 ⟨d,_,_,_,_,_,rfl,g,u,q,‹_›⟩) ?Bm)
  case L5 =>
   rintro c v ⟨d,out,l,f,ac,bc,rfl,g,u,q,N⟩
   exact⟨d,.inr ⟨out,l,f,ac,bc,rfl,g,u,q,by lia⟩⟩
  case Bl =>
   rintro y c v _ hy ⟨d,out,l,f,ac,bc,rfl,g,u,q,N⟩
   obtain⟨J,R,Wh⟩:=fO (arr:=b) (i:=f) q;obtain⟨M,T,Wi⟩:=fO (arr:=a) (i:=l) (dN ‹_›);refine ai (m:=elem' b f) (cg R ?_);refine ai (m:=elem' a l) (cg T ?_);refine ai (m:=lt' J M) (Bi (d.1.trans hk) (gg Wg R) (gg Wf T) ?_);refine bI (λhw=>?_) λhw=>?_
   ·have g1:=pB g R λm B t=>dt (kH (fJ hw)) (dt (jk Wi.symm) (rn X B t))
    refine ai (m:=elem' b f) (cg R ?_);refine bI (λe1=>aA ⟨d,.inl ⟨_,rfl,uh g1 (.inr (bF.mp e1))⟩⟩) λe1=>?_
    have e1:=tj q λz=>e1 (bF.mpr z)
    have L:x+2<=l+(f+1):=by lia
    exact bI (λ_=>aA ⟨d,.inr ⟨_,_,_,_,_,rfl,g1,u,e1,L⟩⟩) λ_=>aA ⟨d,_,_,_,_,_,rfl,g1,u,e1,pm L⟩
   ·have g1:=pA g T λm B t=>dt (dt (Int.not_lt.mp λz=>hw (dq z)) (jk Wh.symm)) (rn Y B t)
    refine ai (m:=elem' a l) (cg T ?_);refine bI (λe1=>aA ⟨d,.inl ⟨_,rfl,yU g1 (bF.mp e1)⟩⟩) λe1=>?_
    have e1:=tj u λz=>e1 (bF.mpr z)
    have L:x+2<=l+1+f:=by lia
    exact bI (λ_=>aA ⟨d,.inr ⟨_,_,_,_,_,rfl,g1,e1,q,L⟩⟩) λ_=>aA ⟨d,_,_,_,_,_,rfl,g1,e1,q,pm L⟩
  case Bm =>
   rintro⟨_,c⟩ v ⟨d,⟨r,rfl,gr⟩ | ⟨out,l,f,ac,bc,e,g,u,q,N⟩⟩
   ·exact aA ⟨d,r,rfl,gr⟩
   cases e;refine ai (kO (gD ⟨rfl,?_⟩));refine ai (d9 (d8
    (I:=lo3 a b st x)
    (Q:=lq3 a b st x) ?Bn ?L6 ⟨d,_,_,_,_,_,_,rfl,g,u,q,‹_›⟩) ?Bo)
   case L6 =>
    rintro c v ⟨d,out,l,f,mg,ac,bc,rfl,g,u,q,N⟩
    exact⟨d,.inr ⟨out,l,f,mg,ac,bc,rfl,g,u,q,N⟩⟩
   case Bo =>
    rintro⟨_,c⟩ v ⟨d,⟨r,rfl,gr⟩ | ⟨out,l,f,mg,ac,bc,e,g,u,q,N⟩⟩
    ·exact aA ⟨d,r,rfl,gr⟩
    ·cases e;refine ai (gE ?_);exact aA ⟨d,_,_,_,_,rfl,g,u,q,‹_›⟩
   case Bn =>
    rintro y c v _ hy ⟨d,out,l,f,mg,ac,bc,rfl,g,u,q,N⟩
    obtain⟨J,R,Wh⟩:=fO (arr:=b) (i:=f) q
    extract_lets +onlyGivenNames _ _ _ _ _ _ _ _ _ _ _ _ jp
    have hj:∀m,wpS (model prog w) A E s (jp () m) (Ze (lq3 a b st x) (lo3 a b st x (y+1))) v:=λm=>by
     refine ai (gE ?_);refine ai (m:=elem' b f) (cg R ?_);refine ai (m:=jY false J a l (a.size-l) 0) (ij (d.1.trans hk) Wf (gg Wg R) (by lia) (by lia) (rV X (by lia)) λk k1 k2 k3=>?_)
     dsimp -zeta only
     extract_lets +onlyGivenNames _ jp2
     have hj2:∀o C,G le a.toList b.toList o.toList C f->C+1<a.size->(∀m,C<=m->m<a.size->ky J<K a m)->x+2<=C+f->wpS (model prog w) A E s (jp2 () o C) (Ze (lq3 a b st x) (lo3 a b st x (y+1))) (mgS m v):=λo C gk w1 w2 w3=>by
      have gb:=pB gk R λm B t=>kH (w2 m B t)
      refine ai (m:=elem' b f) (cg R ?_);refine bI (λe3=>aA ⟨d,.inl ⟨_,rfl,uh gb (.inr (bF.mp e3))⟩⟩) λe3=>?_
      have e3:=tj q λz=>e3 (bF.mpr z)
      obtain⟨M,T,Wi⟩:=fO (arr:=a) (i:=C) (dN ‹_›);refine ai (m:=elem' a C) (cg T ?_);refine ai (m:=jY true M b (f+1) (b.size-(f+1)) 0) (ij (d.1.trans hk) Wg (gg Wf T) (by lia) (by lia) (rV Y (by lia)) λk' l1 l2 l3=>?_)
      have v2:∀m,f+1+k'<=m->m<b.size->ky M<=K b m:=λm B t=>by
       have:=IU.2.mp (l3 (m-(f+1)) (by lia) (by lia))
       rwa [show f+1+(m-(f+1))=m by lia]at this
      dsimp -zeta only
      extract_lets +onlyGivenNames _ _ jp3
      have hj3:∀p jb,G le a.toList b.toList p.toList C jb->jb<b.size->(∀m,jb<=m->m<b.size->ky M<=K b m)->x+2<=C+jb->wpS (model prog w) A E s (jp3 () p jb) (Ze (lq3 a b st x) (lo3 a b st x (y+1))) (mgS m v):=λp jb gl v1 v2 v3=>by
       have gf:=pA gl T v2;refine ai (m:=elem' a C) (cg T ?_);refine bI (λe5=>aA ⟨d,.inl ⟨_,rfl,yU gf (bF.mp e5)⟩⟩) λe5=>?_
       have e5:=tj w1 λz=>e5 (bF.mpr z)
       have e6:x+2<=C+1+jb:=by lia
       exact bI (λ_=>aA ⟨d,.inr ⟨_,_,_,_,_,_,rfl,gf,e5,v1,e6⟩⟩) λ_=>aA ⟨d,_,_,_,_,_,_,rfl,gf,e5,v1,e6⟩
      refine bI (λZf=>?_) λZf=>hj3 _ _ gb e3 (by rwa [Nat.eq_zero_of_not_pos Zf]at v2) (Nat.le_succ_of_le w3)
      have gl:G le a.toList b.toList (o.push J++b.extract (f+1) (f+1+k')).toList C (f+1+k'):=by
       rw[jO,Bk];refine(gb.symm.more Y k' (by rw[da];lia) λi x hi D z H=>?_).symm
       obtain⟨m,B,t,q3,Z⟩:=jC H;have u1:=IU.1.mp (l2 i hi);have u2:=rn X B t;rw[mL]at D;rw[vY D]at u1;rw[Wi,Z]at u2;exact dt (kH u1) u2
      exact bI (λe4=>aA ⟨d,.inl ⟨_,rfl,uh gl (.inr (bF.mp e4))⟩⟩) λe4=>hj3 _ (f+1+k') gl (tj (by lia) λz=>e4 (bF.mpr z)) v2 (by lia)
     have w2:∀m,l+k<=m->m<a.size->ky J<K a m:=λm B t=>by
      have:=IV.2.mp (k3 (m-l) (by lia) (by lia))
      rwa [show l+(m-l)=m by lia]at this
     refine bI (λQW=>?_) λQW=>hj2 _ _ g u (by rwa [Nat.eq_zero_of_not_pos QW]at w2) N
     have gk:G le a.toList b.toList (out++a.extract l (l+k)).toList (l+k) f:=by
      rw[jO,Bk];refine g.more X k (by rw[da];lia) λi x hi D z H=>?_
      obtain⟨m,B,t,q3,Z⟩:=jC H;have u1:=IV.1.mp (k2 i hi);have u2:=rn Y B t;rw[mL]at D;rw[vY D]at u1;rw[Wh,Z]at u2;exact dt u1 u2
     refine bI (λe1=>aA ⟨d,.inl ⟨_,rfl,yU gk (bF.mp e1)⟩⟩) λe1=>?_
     refine bI (λL=>aA ⟨d,.inl ⟨_,rfl,uh gk (.inl (bF.mp L))⟩⟩) λL=>?_
     have e1:¬l+k+1=a.size:=λz=>e1 (bF.mpr z)
     have L:¬l+k=a.size:=λz=>L (bF.mpr z)
     exact hj2 _ (l+k) gk (by lia) w2 (by lia)
    exact bI (λ_=>hj _) λ_=>hj _
def Hi(a b out:Array Keyed)(c nb:Nat):Prop:=c<=a.size/\nb<=b.size/\G ge a.toList.reverse b.toList.reverse out.toList (a.size-c) (b.size-nb)
def Hi.symm{a b out:Array Keyed}{c nb:Nat}(g:Hi a b out c nb):Hi b a out nb c:=⟨g.2.1,g.1,g.2.2.symm⟩
def iC{a:Array Keyed}{c:Nat}(h:c<=a.size):a.toList.reverse.drop (a.size-c)=(a.toList.take c).reverse:=by
 rw[List.drop_reverse,da,show a.size-(a.size-c)=c by lia]
def gO{a:Array Keyed}{n:Nat}{y:Keyed}(h:y∈a.toList.take n):∃m,m<n/\m<a.size/\a[m]?=some y/\K a m=ky y:=by
 obtain⟨m,d,e⟩:=yh.mp h;rw[jQ,da]at d;have c:a[m]?=some y:=by
  grind
 exact⟨m,by lia,by lia,c,vY c⟩
def Wj{a:Array Keyed}{c:Nat}{x:Keyed}(d:0<c)(e:c<=a.size)(f:a[c-1]?=some x):a.toList.reverse[a.size-c]?=some x:=by
 grind
def Hi.push{a b out:Array Keyed}{c nb:Nat}(g:Hi a b out c nb)(f:up a.toList)(i:0<c){x:Keyed}(j:a[c-1]?=some x)(k:∀y∈b.toList.take nb,ky y<=ky x):Hi a b (out.push x) (c-1) nb:=by
 obtain⟨l,d,g⟩:=g;refine⟨by lia,d,?_⟩
 rw[yr,show a.size-(c-1)=a.size-c+1 by lia]
 refine g.push (yT f) (Wj i l j) λy e=>?_
 rw[iC d,yw]at e;exact k y e
def Hi.more{a b out:Array Keyed}{d nb c:Nat}(g:Hi a b out d nb)(l:up a.toList)(q:c<=d)(m:∀(i:Nat) (x:Keyed),c<=i->i<d->a[i]?=some x->∀y∈b.toList.take nb,ky y<=ky x):Hi a b (out++(a.extract c d).reverse) c nb:=by
 obtain⟨o,f,g⟩:=g;refine⟨bC ‹_› ‹_›,f,?_⟩;have p:=g.more (yT l) (d-c) (by grind) λi x r j y k=>by
  rw[iC f,yw]at k;rw[List.getElem?_reverse (by grind),da,mL]at j
  exact m (a.size-1-(a.size-d+i)) x (by lia) (by lia) j y k
 have e:(a.toList.reverse.drop (a.size-d)).take (d-c)=((a.extract c d).reverse).toList:=by
  rw[iC o,List.take_reverse,jQ,da,show min d a.size-(d-c)=c by lia,List.drop_take,Array.toList_reverse,pz,List.extract_eq_drop_take]
 rw[jO,<-e,show a.size-c=a.size-d+(d-c) by lia]
 exact p
def Wk(a:Array Keyed)(n:Nat):(a.extract 0 n).toList=a.toList.take n:=by
 simp_all
def Hi.fin{a b out:Array Keyed}{c nb:Nat}(g:Hi a b out c nb)(j:up a.toList)(k:up b.toList)(h:∀y∈b.toList.take nb,∀x∈a.toList.take c,ky y<=ky x):jm le a.toList b.toList (b.extract 0 nb++a.extract 0 c++out.reverse).toList:=by
 obtain⟨d,e,g⟩:=g;have:=L4 (g.fin (yT j) (yT k) λx f y i=>by
  rw[iC d,yw]at f;rw[iC e,yw]at i;exact h y i x f)
 rw[iC d,iC e,List.reverse_append,List.reverse_append,List.reverse_reverse,List.reverse_reverse]at this;rw[jO,jO,Wk,Wk,Array.toList_reverse,cC];exact this
def Bp:Array Keyed->Array Keyed->StateT SortSt Sem (Array Keyed):=sortPriv% PySem.Builtin.mergeHi
abbrev hi1(a b:Array Keyed)(st:SortSt)(x:Nat)(c:Option (Array Keyed)×Nat×Nat×Array Keyed×Nat)(g:SortSt):Prop:=Sm st g/\∃e f d i,c=(none,e,f,d,i)/\Hi a b d e f/\0<e/\1<f/\e+f+x+1<=a.size+b.size
abbrev hq1(a b:Array Keyed)(st:SortSt)(c:Option (Array Keyed)×Nat×Nat×Array Keyed×Nat)(d:SortSt):Prop:=Sm st d/\∃r,c.1=some r/\jm le a.toList b.toList r.toList
abbrev hi2(a b:Array Keyed)(st:SortSt)(x:Nat)(y:Nat)(c:Option (Array Keyed)×Nat×Nat×Array Keyed×Nat×Nat)(g:SortSt):Prop:=Sm st g/\∃e f d i j,c=(none,e,f,d,i,j)/\Hi a b d e f/\0<e/\1<f/\e+f+x+1+min y 1<=a.size+b.size
abbrev jD(a b:Array Keyed)(st:SortSt)(x:Nat)(c:Option (Array Keyed)×Nat×Nat×Array Keyed×Nat×Nat)(g:SortSt):Prop:=Sm st g/\((∃r,c.1=some r/\jm le a.toList b.toList r.toList)\/∃e f d i j,c=(none,e,f,d,i,j)/\Hi a b d e f/\0<e/\1<f/\e+f+x+2<=a.size+b.size)
abbrev OX(a b:Array Keyed)(st:SortSt)(x:Nat)(y:Nat)(c:Option (Array Keyed)×Nat×Nat×Array Keyed×Nat×Nat×Nat)(g:SortSt):Prop:=Sm st g/\∃e f d i j k,c=(none,e,f,d,i,j,k)/\Hi a b d e f/\0<e/\1<f/\e+f+x+2<=a.size+b.size
abbrev TZ(a b:Array Keyed)(st:SortSt)(x:Nat)(c:Option (Array Keyed)×Nat×Nat×Array Keyed×Nat×Nat×Nat)(g:SortSt):Prop:=Sm st g/\((∃r,c.1=some r/\jm le a.toList b.toList r.toList)\/∃e f d i j k,c=(none,e,f,d,i,j,k)/\Hi a b d e f/\0<e/\1<f/\e+f+x+2<=a.size+b.size)
def EH{Q:Array Keyed->SortSt->Prop}(hk:kindOf st=oneType')(Wf:IntKeys a)(Wg:IntKeys b)(T:up a.toList)(Z:up b.toList)(na:0<a.size)(nb:0<b.size)
  (first:K b 0<=K a 0) (gW:∀y∈b.toList,ky y<=K a (a.size-1)) (h:∀r B,Sm st B->jm le a.toList b.toList r.toList->Q r B):wpS (model prog w) A E s (Bp a b) Q st:=by
 have pm:∀{n m x y:Nat},m+x+2<=n->m+x+1+min (y+1) 1<=n:=λh=>by lia
 have uh:∀{out:Array Keyed} {i j:Nat},Hi a b out i j->(i=0\/j=0)->jm le a.toList b.toList (a.extract 0 i++b.extract 0 j++out.reverse).toList:=λ{out i j} g H=>by
  refine(g.symm.fin Z T λx X y hy=>?_).symm
  rcases H with rfl | rfl
  ·cases X
  ·cases hy
 have yU:∀{out:Array Keyed} {i j:Nat},Hi a b out i j->j=1->jm le a.toList b.toList (b.extract 0 j++a.extract 0 i++out.reverse).toList:=λ{out i j} g H=>by
  refine g.fin T Z λy hy x X=>?_
  obtain⟨m,h1,h2,h3,h4⟩:=gO hy;obtain⟨n,n1,n2,n3,n4⟩:=gO X;rw[<-h4,<-n4,show m=0 by lia]
  exact dt first (rn T (dE n) n2)
 have pA:∀{out:Array Keyed} {i j:Nat} {L:Keyed},Hi a b out i j->0<i->a[i-1]?=some L->(∀m,m<j->m<b.size->K b m<=ky L)->Hi a b (out.push L) (i-1) j:=λg h0 ha H=>g.push T h0 ha λz TY=>by
  obtain⟨m,t,q2,q3,q4⟩:=gO TY;exact dt (jk q4.symm) (H m t q2)
 have pB:∀{out:Array Keyed} {i j:Nat} {J:Keyed},Hi a b out i j->0<j->b[j-1]?=some J->(∀m,m<i->m<a.size->K a m<=ky J)->Hi a b (out.push J) i (j-1):=λg h0 hb H=>(g.symm.push Z h0 hb λz TY=>by
  obtain⟨m,t,q2,q3,q4⟩:=gO TY;exact dt (jk q4.symm) (H m t q2)).symm
 refine ai (kO (gD ⟨rfl,?_⟩));obtain⟨a0,ha0,ea0⟩:=fO (arr:=a) (i:=a.size-1) (by lia)
 refine ai (cg ha0 ?_);have g0:Hi a b (#[a0]:Array Keyed) (a.size-1) b.size:=pA (out:=#[]) ⟨au _,au _,by simp,.nil,(λ_ z=>nomatch z),(λ_ z=>nomatch z)⟩ na ha0 λm _ q=>dt (vY (sQ q)▸gW _ (Array.getElem_mem_toList q)) (jk ea0)
 refine bI (λh1=>aA (h _ _ (Sm.refl st) (uh g0 (.inl (bF.mp h1))))) λh1=>?_
 refine bI (λh2=>aA (h _ _ (Sm.refl st) (yU g0 (bF.mp h2)))) λh2=>?_
 rw[bF]at h1 h2;refine ai (fB ?_);refine ai (d9 (d8
  (I:=hi1 a b st)
  (Q:=hq1 a b st) ?step ?fin ⟨Sm.refl st,_,_,_,_,rfl,g0,(yn ‹_›),by lia,by lia⟩) ?post)
 case fin =>
  rintro c B ⟨_,l,d,out,mg,_,_,u,v,M⟩
  lia
 case post =>
  rintro⟨_,c⟩ B ⟨f,r,rfl,g⟩
  exact aA (h r B f g)
 case step =>
  rintro x c B _ X ⟨f,l,d,out,mg,rfl,g,u,v,M⟩
  refine ai (d9 (d8
   (I:=hi2 a b st x)
   (Q:=jD a b st x) ?Bl ?L5 ⟨f,_,_,_,_,_,rfl,g,u,v,‹_›⟩) ?Bm)
  case L5 =>
   rintro c B ⟨f,l,d,out,ac,bc,rfl,g,u,v,M⟩
   exact⟨f,.inr ⟨l,d,out,ac,bc,rfl,g,u,v,by lia⟩⟩
  case Bl =>
   rintro y c B _ hy ⟨f,l,d,out,ac,bc,rfl,g,u,v,M⟩
   have y1:=g.1;have y2:=g.2.1;obtain⟨J,N,Wh⟩:=fO (arr:=b) (i:=d-1) (by lia)
   obtain⟨L,R,Wi⟩:=fO (arr:=a) (i:=l-1) (by lia)
   refine ai (m:=elem' b (d-1)) (cg N ?_);refine ai (m:=elem' a (l-1)) (cg R ?_);refine ai (m:=lt' J L) (Bi (f.1.trans hk) (gg Wg N) (gg Wf R) ?_);refine bI (λhw=>?_) λhw=>?_
   ·have g1:=pA g u R λm t _=>dt (rn Z (i:=m) (j:=d-1) (by lia) (by lia)) (dt (jk Wh) (kH (fJ hw)))
    refine ai (m:=elem' a (l-1)) (cg R ?_);refine bI (λe1=>aA ⟨f,.inl ⟨_,rfl,uh g1 (.inl (bF.mp e1))⟩⟩) λe1=>?_
    have e1:=yn λz=>e1 (bF.mpr z)
    have e2:l-1+d+x+2<=a.size+b.size:=by lia
    exact bI (λ_=>aA ⟨f,.inr ⟨_,_,_,_,_,rfl,g1,e1,v,e2⟩⟩) λ_=>aA ⟨f,_,_,_,_,_,rfl,g1,e1,v,pm e2⟩
   ·have g1:=pB g (dN v) N λm t _=>dt (rn T (i:=m) (j:=l-1) (by lia) (by lia)) (dt (jk Wi) (Int.not_lt.mp λz=>hw (dq z)))
    refine ai (m:=elem' b (d-1)) (cg N ?_);refine bI (λe1=>aA ⟨f,.inl ⟨_,rfl,yU g1 (bF.mp e1)⟩⟩) λe1=>?_
    have e1:¬d-1=1:=λz=>e1 (bF.mpr z)
    have e3:1<d-1:=by lia
    have e2:l+(d-1)+x+2<=a.size+b.size:=by lia
    exact bI (λ_=>aA ⟨f,.inr ⟨_,_,_,_,_,rfl,g1,u,e3,e2⟩⟩) λ_=>aA ⟨f,_,_,_,_,_,rfl,g1,u,e3,pm e2⟩
  case Bm =>
   rintro⟨_,c⟩ B ⟨f,⟨r,rfl,gr⟩ | ⟨l,d,out,ac,bc,e,g,u,v,M⟩⟩
   ·exact aA ⟨f,r,rfl,gr⟩
   cases e;refine ai (kO (gD ⟨rfl,?_⟩));refine ai (d9 (d8
    (I:=OX a b st x)
    (Q:=TZ a b st x) ?Bn ?L6 ⟨f,_,_,_,_,_,_,rfl,g,u,v,‹_›⟩) ?Bo)
   case L6 =>
    rintro c B ⟨f,l,d,out,mg,ac,bc,rfl,g,u,v,M⟩
    exact⟨f,.inr ⟨l,d,out,mg,ac,bc,rfl,g,u,v,M⟩⟩
   case Bo =>
    rintro⟨_,c⟩ B ⟨f,⟨r,rfl,gr⟩ | ⟨l,d,out,mg,ac,bc,e,g,u,v,M⟩⟩
    ·exact aA ⟨f,r,rfl,gr⟩
    ·cases e;refine ai (gE ?_);exact aA ⟨f,_,_,_,_,rfl,g,u,v,‹_›⟩
   case Bn =>
    rintro y c B _ hy ⟨f,l,d,out,mg,ac,bc,rfl,g,u,v,M⟩
    have y1:=g.1;have y2:=g.2.1;obtain⟨J,N,Wh⟩:=fO (arr:=b) (i:=d-1) (by lia)
    extract_lets +onlyGivenNames _ _ _ _ _ _ _ _ _ _ _ _ jp
    have hj:∀m,wpS (model prog w) A E s (jp () m) (Ze (TZ a b st x) (OX a b st x (y+1))) B:=λm=>by
     refine ai (gE ?_);refine ai (m:=elem' b (d-1)) (cg N ?_);refine ai (m:=jY false J a 0 l (l-1)) (ij (f.1.trans hk) Wf (gg Wg N) (by lia) (by lia) (rV T (by lia)) λk k1 k2 k3=>?_)
     dsimp -zeta only
     extract_lets +onlyGivenNames _ _ jp2
     have hj2:∀C o,Hi a b o C d->0<C->(∀m,m<C->K a m<=ky J)->C+d+x+2<=a.size+b.size->wpS (model prog w) A E s (jp2 () C o) (Ze (TZ a b st x) (OX a b st x (y+1))) (mgS m B):=λC o gk w1 w2 w3=>by
      have gb:=pB gk (dN v) N λm t _=>w2 m t
      refine ai (m:=elem' b (d-1)) (cg N ?_);refine bI (λe3=>aA ⟨f,.inl ⟨_,rfl,yU gb (bF.mp e3)⟩⟩) λe3=>?_
      have e3:¬d-1=1:=λz=>e3 (bF.mpr z)
      have w4:=gk.1;obtain⟨L,R,Wi⟩:=fO (arr:=a) (i:=C-1) (by lia)
      refine ai (m:=elem' a (C-1)) (cg R ?_);refine ai (m:=jY true L b 0 (d-1) (d-1-1)) (ij (f.1.trans hk) Wg (gg Wf R) (by lia) (by lia) (rV Z (by lia)) λY l1 l2 l3=>?_)
      have v2:∀m,m<Y->K b m<=ky L:=λm t=>by
       have:=IU.1.mp (l2 m t);rw[dZ]at this;exact kH this
      dsimp -zeta only
      extract_lets +onlyGivenNames _ _ _ jp3
      have hj3:∀jb p,Hi a b p C jb->1<jb->(∀m,m<jb->K b m<=ky L)->C+jb+x+2<=a.size+b.size->wpS (model prog w) A E s (jp3 () jb p) (Ze (TZ a b st x) (OX a b st x (y+1))) (mgS m B):=λjb p gl v1 v2 v3=>by
       have gf:=pA gl w1 R λm t _=>v2 m t
       refine ai (m:=elem' a (C-1)) (cg R ?_);refine bI (λD=>aA ⟨f,.inl ⟨_,rfl,uh gf (.inl (bF.mp D))⟩⟩) λD=>?_
       have D:=yn λz=>D (bF.mpr z)
       have e6:C-1+jb+x+2<=a.size+b.size:=by lia
       exact bI (λ_=>aA ⟨f,.inr ⟨_,_,_,_,_,_,rfl,gf,D,v1,e6⟩⟩) λ_=>aA ⟨f,_,_,_,_,_,_,rfl,gf,D,v1,e6⟩
      refine bI (λZf=>?_) λZf=>?_
      ·have gl:Hi a b (o.push J++(b.extract Y (d-1)).reverse) C Y:=(gb.symm.more Z l1 λi x t q2 X z H=>by
        obtain⟨m,p1,p2,p3,p4⟩:=gO H;have u1:=IU.2.mp (l3 i t q2);rw[dZ,vY X]at u1;have u2:=rn T (i:=m) (j:=C-1) (by lia) (by lia)
        rw[Wi,p4]at u2;exact dt u2 u1).symm
       refine bI (λe4=>aA ⟨f,.inl ⟨_,rfl,yU gl (bF.mp e4)⟩⟩) λe4=>?_
       refine bI (λD=>aA ⟨f,.inl ⟨_,rfl,uh gl (.inr (bF.mp D))⟩⟩) λD=>?_
       have e4:¬Y=1:=λz=>e4 (bF.mpr z)
       have D:¬Y=0:=λz=>D (bF.mpr z)
       exact hj3 Y _ gl (by lia) v2 (by lia)
      ·have Zf:¬d-1-Y>0:=Zf;rw[show Y=d-1 by lia]at v2
       exact hj3 (d-1) _ gb (by lia) v2 (by lia)
     have w2:∀m,m<k->K a m<=ky J:=λm t=>by
      have:=IV.1.mp (k2 m t)
      rwa [dZ]at this
     refine bI (λQW=>?_) λQW=>?_
     ·have gk:Hi a b (out++(a.extract k l).reverse) k d:=g.more T k1 λi x t q2 X z H=>by
       obtain⟨m,p1,p2,p3,p4⟩:=gO H;have u1:=IV.2.mp (k3 i t q2);rw[dZ,vY X]at u1;have u2:=rn Z (i:=m) (j:=d-1) (by lia) (by lia)
       rw[Wh,p4]at u2;exact dt u2 (kH u1)
      exact bI (λe1=>aA ⟨f,.inl ⟨_,rfl,uh gk (.inl (bF.mp e1))⟩⟩) λe1=>hj2 k _ gk (yn λz=>e1 (bF.mpr z)) w2 (by lia)
     ·have QW:¬l-k>0:=QW;rw[show k=l by lia]at w2
      exact hj2 l _ g u w2 M
    exact bI (λ_=>hj _) λ_=>hj _
end
end
section
variable {prog:Program} {w:World} {A:Around} {E:Value->Shared->Prop} {s:Shared} {st:SortSt}
theorem GV(b:Nat):∀(l:List Keyed) (i:Nat) (a:Array Keyed),b+i+l.length<=a.size->((l.zipIdx i).foldl (λa (x:Keyed×Nat)=>match x with | (p,j)=>a.setIfInBounds (b+j) p) a).toList=a.toList.take (b+i)++l++a.toList.drop (b+i+l.length)
 | [],i,a,_=>by simp
 | p::l,i,a,h=>by
  rw[aR]at h;rw[List.zipIdx_cons,yx];rw[GV b l (i+1) (a.setIfInBounds (b+i) p) (by grind),Array.toList_setIfInBounds,aR,<-Nat.add_assoc b i 1]
  have c:b+i<a.toList.length:=by grind
  rw[List.drop_set_of_lt (fZ _ _),D5,List.take_set_of_le (au _),sS c,show b+i+(l.length+1)=b+i+1+l.length by lia]
  simp
def vQ(a:Array Keyed)(i j:Nat):Prop:=∀p q,i<=p->p<=q->q<j->K a p<=K a q
def ui(h:vQ a i j)(f:j<=a.size):up (a.extract i j).toList:=by
 unfold up;rw[List.pairwise_iff_getElem];intro p q hp c d;rw[da,yl]at hp c;have e:∀m (b:m<(a.extract i j).toList.length),ky (a.extract i j).toList[m]=K a (i+m):=λm b=>by
  rw[da,yl]at b;have:(a.extract i j)[m]?=a[i+m]?:=by rw[Array.getElem?_extract];rw[if_pos (by lia)]
  rw[Array.getElem_toList];refine(vY ?_).symm;rw[<-this,sQ]
 show ky _<=ky _;rw[e,e];exact h _ _ (fZ _ _) (by lia) (by lia)
def rW{a:Array Keyed}(h:IntKeys a)(i j:Nat):IntKeys (a.extract i j):=λp hp=>h p (by
 rw[pz,List.extract_eq_drop_take]at hp;exact List.mem_of_mem_drop (List.mem_of_mem_take hp))
def yX(h:y∈(a.extract i j).toList):∃m,i<=m/\m<j/\m<a.size/\K a m=ky y:=by
 rw[pz,List.extract_eq_drop_take]at h;obtain⟨m,b,e⟩:=yh.mp h;rw[jQ,tu,da]at b;exact⟨i+m,(fZ _ _),by lia,by lia,vY (by grind)⟩
def Up(a:Array Keyed):Prop:=up a.toList
def ae4(a:Array Keyed)(h1:i<=j)(c:j<=k):a.toList.Perm (a.toList.take i++((a.extract i j).toList++(a.extract j k).toList)++a.toList.drop k):=by
 have e1:(a.extract i j).toList++(a.extract j k).toList=(a.toList.drop i).take (k-i):=by
  rw[pz,pz,List.extract_eq_drop_take,List.extract_eq_drop_take,show k-i=(j-i)+(k-j) by lia,List.take_add,List.drop_drop,show i+(j-i)=j by lia]
 rw[e1];have b:a.toList.take i++(a.toList.drop i).take (k-i)++a.toList.drop k=a.toList:=by
  rw[<-List.take_add,show i+(k-i)=k by lia,DW]
 rw[b]
def L7(h:vQ a 0 a.size):Up a:=by
 have:=ui h (au _)
 rwa [Array.extract_size]at this
def QX{x st:σ}(h:Q ⟨⟩ x):wpS M A E s (set x:StateT σ Sem PUnit) Q st:=by
 unfold wpS;rw[StateT.run_set];exact ao ⟨rfl,h⟩
def Bq(c:vQ a base (base+n)):∀i j,i<=j->j<n->Bv left key a base j=true->Bv left key a base i=true:=λi j d e b=>by
 have:=c (base+i) (base+j) (fZ _ _) (by lia) (by lia)
 unfold Bv at b ⊢;cases left with
 | true=>simp only[jl,jP]at b ⊢;lia
 | false=>simp only[tf,jR,yp,DT]at b ⊢;lia
def L8(h:i+m<j)(c:j<=a.size):K (a.extract i j) m=K a (i+m):=by
 obtain⟨x,b,e⟩:=fO (arr:=a) (i:=i+m) (b8 ‹_› ‹_›);rw[e];refine vY ?_;rw[Array.getElem?_extract,if_pos (by lia)]
 exact b
def L9(N:b+u=a.size)(s1:vQ a 0 b)(s2:vQ a b (b+u))(hk:k<b)(Q:j<=u)(R:0<u)(T:K a b=D)(X:K a (b-1)=H)
  (I:∀i,i<k->K a i<=D) (J:∀i,j<=i->i<u->H<=K a (b+i)) (g:jm le (a.extract k b).toList (a.extract b (b+j)).toList r) :
  (a.toList.take k++r++a.toList.drop (b+j)).Perm a.toList/\up (a.toList.take k++r++a.toList.drop (b+j)):=by
 refine⟨((g.1.append_left _).append_right _).trans (ae4 a (dN ‹_›) (fZ _ _)).symm,?_⟩;have hr:∀y∈r,(∃m,k<=m/\m<b/\K a m=ky y)\/∃m,b<=m/\m<b+j/\K a m=ky y:=λy e=>by
  rcases bB.mp (g.1.mem_iff.mp e)with e | e
  ·obtain⟨m,d,c,f,o⟩:=yX e;exact .inl ⟨m,d,c,o⟩
  ·obtain⟨m,d,c,f,o⟩:=yX e;exact .inr ⟨m,d,c,o⟩
 refine sX.mpr ⟨sX.mpr ⟨?_,g.2,λx l y e=>?_⟩,?_,λx l y e=>?_⟩
 ·rw[<-Wk];exact ui (λp q d c f=>s1 p q d c (by lia)) (by lia)
 ·obtain⟨p,t,B,v,C⟩:=gO l;show ky x<=ky y;rw[<-C];rcases hr y e with⟨m,d,c,f⟩ | ⟨m,d,c,f⟩
  ·rw[<-f];exact s1 p m (dE _) (by lia) c
  ·rw[<-f];have:=I p t;have:=s2 b m (au _) d (by lia)
   lia
 ·rw[<-kR];exact ui (λp q d c f=>s2 p q (by lia) c (by lia)) (au _)
 ·obtain⟨m,d,c,f,o⟩:=jC e;show ky x<=ky y;rw[<-o];have L:=J (m-b) (by lia) (by lia)
  rw[show b+(m-b)=m by lia]at L
  have M:∀p,p<b->K a p<=K a m:=λp hp=>by
   have:=s1 p (b-1) (dE _) (by lia) (by lia)
   lia
  rcases bB.mp l with l | l
  ·obtain⟨p,t,B,v,C⟩:=gO l;rw[<-C];exact M p (by lia)
  ·rcases hr x l with⟨p,t,B,v⟩ | ⟨p,t,B,v⟩
   ·grind
   ·rw[<-v];exact s2 p m t (by lia) (by lia)
def EI(hk:kindOf st=oneType')(N:failedOf st=none)(f:IntKeys (arrOf st))(hp:pendingOf st=#[(0,b,D),(b,l,0)])(h1:0<b)(h2:0<l)(hz:b+l=(arrOf st).size)
  (s1:vQ (arrOf st) 0 b) (s2:vQ (arrOf st) b (b+l))
  (h:∀d,(arrOf d).toList.Perm (arrOf st).toList->Up (arrOf d)->failedOf d=none->pendingOf d=#[(0,b+l,D)]->Q true d):wpS (model prog w) A E s (mergeAt' 0) Q st:=by
 refine ai (fB ?_);have e0:(pendingOf st)[0]?=some (0,b,D):=by rw[hp];rfl
 have e1:(pendingOf st)[0+1]?=some (b,l,0):=by rw[hp];rfl
 rw[e0,e1];dsimp only
 have t:((pendingOf st).setIfInBounds 0 (0,b+l,D)).eraseIdxIfInBounds (0+1)=#[(0,b+l,D)]:=by
  rw[hp];simp[Array.eraseIdxIfInBounds]
 have all:∀{c:Int},K (arrOf st) b=c->(∀i,i<b->K (arrOf st) i<=c)->Up (arrOf st):=λ{c} ec hc=>L7 λp q u v R=>by
  by_cases hq:q<b
  ·exact s1 p q u v hq
  ·by_cases hp:b<=p
   ·exact s2 p q hp v (by lia)
   ·have Y:=hc p (D9 ‹_›);have f2:=s2 b q (au _) (pG ‹_›) (by lia)
    lia
 refine ai (QX ?_);obtain⟨c0,H,o⟩:=fO (arr:=arrOf st) (i:=b) (by lia)
 refine ai (cg H ?_);refine ai (m:=jY false c0 (arrOf st) 0 b 0) (ij hk f (gg f H) (by lia) h1 (Bq (by rw[dZ];exact s1)) λk k1 k2 k3=>?_)
 have I:∀i,i<k->K (arrOf st) i<=ky c0:=λi f=>by
  have:=IV.1.mp (k2 i f)
  rwa [dZ]at this
 dsimp only
 by_cases hn:b-k=0
 ·rw[if_pos (bF.mpr hn)];exact aA (h _ (List.Perm.refl _) (all o λi f=>I i (by lia)) N t)
 rw[if_neg (λz=>hn (bF.mp z))]
 obtain⟨Z,J,B⟩:=fO (arr:=arrOf st) (i:=0+k+(b-k)-1) (by lia)
 refine ai (cg J ?_);rw[show 0+k+(b-k)-1=b-1 by lia]at B
 refine ai (m:=jY true Z (arrOf st) b l (l-1)) (ij hk f (gg f J) (gS ‹_›) (by lia) (Bq s2) λj j1 j2 j3=>?_)
 have L:∀i,j<=i->i<l->ky Z<=K (arrOf st) (b+i):=λi u v=>IU.2.mp (j3 i u v)
 have j2':∀i,i<j->K (arrOf st) (b+i)<ky Z:=λi u=>IU.1.mp (j2 i u)
 dsimp only
 by_cases hj:j=0
 ·rw[if_pos (bF.mpr hj)];have f0:=L 0 (gS ‹_›) h2;refine aA (h _ (List.Perm.refl _) (all o λi f=>?_) N t)
  have Y:=s1 i (b-1) (dE _) (by lia) (by lia)
  rw[pN]at f0;rw[o]at f0;rw[B]at Y;exact dt Y f0
 rw[if_neg (λz=>hj (bF.mp z))]
 rw[dZ];have M:=IV.2.mp (k3 k (au _) (by lia))
 rw[dZ]at M;have first:K ((arrOf st).extract b (b+j)) 0<=K ((arrOf st).extract k b) 0:=by
  rw[L8 (by lia) (by lia),L8 (by lia) (by lia),pN,pN,o]
  exact kH M
 have T:((arrOf st).extract k b).size=b-k:=by rw[yl];lia
 have zy:((arrOf st).extract b (b+j)).size=j:=by rw[yl];lia
 have gW:∀y∈((arrOf st).extract b (b+j)).toList,ky y<=K ((arrOf st).extract k b) (((arrOf st).extract k b).size-1):=λy hy=>by
  obtain⟨m,u,v,R,q4⟩:=yX hy;rw[T,L8 (by lia) (by lia),show k+(b-k-1)=b-1 by lia,B,<-q4]
  have:=j2' (m-b) (by lia)
  rw[show b+(m-b)=m by lia]at this
  exact kH this
 have ux:up ((arrOf st).extract k b).toList:=ui (λp q u v R=>s1 p q (dE _) v R) (by lia)
 have uy:up ((arrOf st).extract b (b+j)).toList:=ui (λp q u v R=>s2 p q u v (by lia)) (by lia)
 have fin:∀(r:Array Keyed) (d:SortSt),arrOf d=arrOf st->failedOf d=none->pendingOf d=#[(0,b+l,D)]->jm le ((arrOf st).extract k b).toList ((arrOf st).extract b (b+j)).toList r.toList ->
   Q (failedOf d).isNone (SortSt.mk' (kindOf d) (r.toList.zipIdx.foldl (λa (x:Keyed×Nat)=>match x with | (p,i)=>a.setIfInBounds (k+i) p) (arrOf d)) (pendingOf d) (gallopOf d) (failedOf d)):=λr d X a2 a3 g=>by
  have hl:r.toList.length=b-k+j:=by rw[g.1.length_eq,bK,da,da,T,zy]
  obtain⟨w1,w2⟩:=L9 hz s1 s2 (by lia) j1 h2 o B I L g
  have e:=GV k r.toList 0 (arrOf d) (by rw[X,hl];lia)
  rw[X,hl,show k+0+(b-k+j)=b+j by lia,pN]at e
  rw[<-e]at w1 w2;have a4:(failedOf d).isNone=true:=by rw[a2];rfl
  rw[a4];refine h _ ?_ ?_ a2 a3
  ·show(List.foldl _ (arrOf d) _).toList.Perm _;rw[X];exact w1
  ·show up (List.foldl _ (arrOf d) _).toList;rw[X];exact w2
 by_cases hc:b-k<=j
 ·rw[if_pos hc];refine ai (m:=Bj ((arrOf st).extract k b) ((arrOf st).extract b (b+j))) (EG hk (rW f _ _) (rW f _ _) ux uy (by rw[T];lia) (by rw[zy];lia) first gW λr d C g=>?_)
  refine ai (gE ?_);refine ai (fB ?_);exact aA (fin r d C.2.1 (C.2.2.2.trans N) (C.2.2.1.trans t) g)
 ·rw[if_neg hc];refine ai (m:=Bp ((arrOf st).extract k b) ((arrOf st).extract b (b+j))) (EH hk (rW f _ _) (rW f _ _) ux uy (by rw[T];lia) (by rw[zy];lia) first gW λr d C g=>?_)
  refine ai (gE ?_);refine ai (fB ?_);exact aA (fin r d C.2.1 (C.2.2.2.trans N) (C.2.2.1.trans t) g)
end
structure RB (a:Array Keyed) (lo:Nat) (pd:Array (Nat×Nat×Nat)) (st:SortSt):Prop where
 perm:(arrOf st).Perm a
 kind:kindOf st=oneType'
 failed:failedOf st=none
 pend:pendingOf st=pd
 low:∀i,i<lo->K (arrOf st) i=K a i
section
variable {prog:Program} {w:World} {A:Around} {E:Value->Shared->Prop} {s:Shared} {st:SortSt} {a:Array Keyed} {lo:Nat} {pd:Array (Nat×Nat×Nat)}
def RB.size(h:RB a lo pd st):(arrOf st).size=a.size:=h.perm.size_eq
def RB.ints(h:RB a lo pd st)(b:IntKeys a):IntKeys (arrOf st):=λp hp=>b p ((sN.mp h.perm).mem_iff.mp hp)
def RB.set(h:RB a lo pd st)(hp:xs.Perm (arrOf st))(c:∀i,i<lo->K xs i=K (arrOf st) i):RB a lo pd (setArr st xs):=⟨hp.trans h.perm,h.kind,h.failed,h.pend,λi b=>(c i b).trans (h.low i b)⟩
def RB.lt(h:RB a lo pd st)(b:IntKeys a)(f:i<a.size)(g:j<a.size) (c:Q (some (decide (K (arrOf st) i<K (arrOf st) j))) st):wpS (model prog w) A E s (ltAt' i j) Q st:=by
 obtain⟨x,d,ex⟩:=fO (by rw[h.size];exact f)
 obtain⟨y,e,k⟩:=fO (by rw[h.size];exact g)
 rw[ltAt'_eq];refine ai (fB ?_);refine ai (cg d ?_);refine ai (cg e ?_);rw[ex,k]at c;exact Bi h.kind (gg (h.ints b) d) (gg (h.ints b) e) c
def qC(l:IntKeys a)(j:RB a lo pd st)(Z:lo+f<=a.size)(h1:1<=f)(hd:∀p q,lo<=p->p<q->q<lo+f->K (arrOf st) p≠K (arrOf st) q)
  (h:∀m b,RB a lo pd b->1<=m->m<=f->vQ (arrOf b) lo (lo+m)->Q (some m) b):wpS (model prog w) A E s (countRun' lo f) Q st:=by
 refine ai (d9 (d8
  (I:=λx c b=>b=st/\c=(none,x)/\vQ (arrOf st) lo (lo+x))
  (Q:=λc b=>b=st/\∃n,c=(none,n)/\1<=n/\n<=f/\vQ (arrOf st) lo (lo+n)/\(n<f->K (arrOf st) (lo+n)<K (arrOf st) (lo+n-1))) ?step ?fin ⟨rfl,rfl,λp q g k o=>by grind⟩) ?post)
 case fin =>
  rintro c b ⟨rfl,rfl,z⟩
  rw[D7 h1]at z ⊢;exact⟨rfl,f,rfl,h1,au _,z,λq=>absurd q (gR _)⟩
 case step =>
  rintro x c b y L ⟨rfl,rfl,z⟩
  refine ai (j.lt l (by lia) (by lia) ?_)
  (try dsimp only)
  by_cases hw:K (arrOf b) (lo+x)<K (arrOf b) (lo+x-1)
  ·rw[if_pos (dq hw)];exact aA ⟨rfl,x,rfl,y,(dN ‹_›),z,λ_=>hw⟩
  ·rw[if_neg (λq=>hw (fJ q))]
   refine aA ⟨rfl,rfl,λp q g k o=>?_⟩
   by_cases e:q<lo+x
   ·exact z p q g k e
   ·have B:q=lo+x:=by lia
    subst B;by_cases M:p=lo+x
    ·grind
    ·have:=z p (lo+x-1) g (by lia) (by lia)
     lia
 case post =>
  rintro c b ⟨rfl,n,rfl,r,t,z,N⟩
  (try dsimp only)
  by_cases e:n=f
  ·rw[if_pos (bF.mpr e)];exact aA (h n b j r t z)
  rw[if_neg (λq=>e (bF.mp q))]
  by_cases R:n>1
  ·rw[if_pos R];refine ai (j.lt l (by lia) (by lia) ?_)
   (try dsimp only)
   have hw:K (arrOf b) lo<K (arrOf b) (lo+n-1):=by
    have f1:=z lo (lo+n-1) (au _) (by lia) (by lia)
    have f2:=hd lo (lo+n-1) (au _) (by lia) (by lia)
    lia
   rw[if_pos (dq hw)];exact aA (h n b j r t z)
  rw[if_neg R];have C:n=1:=by lia
  subst C;have N:=N (by lia)
  refine ai (kO (gD ⟨rfl,?_⟩));have D:∀p q,lo<=p->p<=q->q<lo+(1+1)->K (arrOf b) q<=K (arrOf b) p:=λp q g k o=>by
   grind
  refine ai (d9 (d8
   (I:=λx c d=>d=b/\c=(none,x,0)/\∀p q,lo<=p->p<=q->q<lo+x->K (arrOf b) q<=K (arrOf b) p)
   (Q:=λc d=>d=b/\∃n,c=(none,n,0)/\2<=n/\n<=f/\∀p q,lo<=p->p<=q->q<lo+n->K (arrOf b) q<=K (arrOf b) p) ?Bn ?L6 ⟨rfl,rfl,D⟩) ?Bo)
  case L6 =>
   rintro c d ⟨rfl,rfl,z⟩
   rw[D7 (by lia)]at z ⊢
   exact⟨rfl,f,rfl,by lia,au _,z⟩
  case Bn =>
   rintro x c d y L ⟨rfl,rfl,z⟩
   refine ai (m:=ltAt' (lo+x) (lo+x-1)) (j.lt l (by lia) (by lia) ?_)
   (try dsimp only)
   by_cases hw:K (arrOf d) (lo+x)<K (arrOf d) (lo+x-1)
   ·rw[if_pos (dq hw),if_neg (by lia)]
    refine aA ⟨rfl,rfl,λp q g k o=>?_⟩
    by_cases e:q<lo+x
    ·grind
    ·grind
   ·rw[if_neg (λq=>hw (fJ q))]
    refine ai (j.lt l (by lia) (by lia) ?_)
    (try dsimp only)
    have T:K (arrOf d) (lo+x-1)<K (arrOf d) (lo+x):=by
     grind
    rw[if_pos (dq T)];exact aA ⟨rfl,x,rfl,by lia,(dN ‹_›),z⟩
  case Bo =>
   rintro c d ⟨rfl,n,rfl,m1,X,Y⟩
   (try dsimp only)
   rw[if_neg (by lia)]
   refine ai (wpS_reverse ?_);have H:lo+n<=(arrOf d).size:=by rw[j.size];lia
   have u:=j.set (mirror_perm (arrOf d) lo (lo+n) ((lo+n-lo)/2)) λi hi=>by rw[K_mirror H,if_neg (by lia)]
   have J:vQ (arrOf (setArr d (mirror (arrOf d) lo (lo+n) ((lo+n-lo)/2)))) lo (lo+n):=λp q g k o=>by
    rw[K_mirror H,K_mirror H,if_pos (by lia),if_pos (by lia)]
    exact Y _ _ (by lia) (by lia) (by lia)
   revert u J
   generalize setArr d (mirror (arrOf d) lo (lo+n) ((lo+n-lo)/2))=v
   intro u J;refine ai (d9 (d8
    (I:=λx c b=>b=v/\c=(none,x)/\vQ (arrOf v) lo (lo+x))
    (Q:=λc b=>b=v/\∃n,c=(none,n)/\1<=n/\n<=f/\vQ (arrOf v) lo (lo+n)) ?aaq ?ae5 ⟨rfl,rfl,J⟩) ?aar)
   case ae5 =>
    rintro c b ⟨rfl,rfl,z⟩
    rw[D7 X]at z ⊢;exact⟨rfl,f,rfl,h1,au _,z⟩
   case aar =>
    rintro c b ⟨rfl,n,rfl,r,t,z⟩
    exact aA (h n b u r t z)
   case aaq =>
    rintro x c b y L ⟨rfl,rfl,z⟩
    refine ai (u.lt l (by lia) (by lia) ?_)
    (try dsimp only)
    by_cases hw:K (arrOf b) (lo+x)<K (arrOf b) (lo+x-1)
    ·rw[if_pos (dq hw)];exact aA ⟨rfl,x,rfl,by lia,(dN ‹_›),z⟩
    ·rw[if_neg (λq=>hw (fJ q))]
     refine aA ⟨rfl,rfl,λp q g k o=>?_⟩
     by_cases e:q<lo+x
     ·exact z p q g k e
     ·have B:q=lo+x:=by lia
      subst B;by_cases M:p=lo+x
      ·rw[M];exact pT _
      ·have:=z p (lo+x-1) g (by lia) (by lia)
       lia
def mj(B:IntKeys a)(e:RB a lo pd st)(X:lo+n<=a.size)(h1:1<=ok)(Y:ok<=n)(C:vQ (arrOf st) lo (lo+ok))
  (h:∀d,RB a lo pd d->vQ (arrOf d) lo (lo+n)->Q true d):wpS (model prog w) A E s (binarySort' lo n ok) Q st:=by
 refine ai (d9 (d8
  (I:=λk c d=>c=(none,())/\RB a lo pd d/\vQ (arrOf d) lo (lo+k))
  (Q:=λc d=>c=(none,())/\RB a lo pd d/\vQ (arrOf d) lo (lo+n)) ?step ?fin ⟨rfl,e,by rw[Nat.max_eq_left h1];exact C⟩) ?post)
 case fin =>
  rintro c d ⟨rfl,e,z⟩
  rw[show max (max ok 1) n=n by lia]at z
  exact⟨rfl,e,z⟩
 case post =>
  rintro c d ⟨rfl,e,z⟩
  exact aA (h d e z)
 case step =>
  rintro k c d D hk ⟨rfl,e,z⟩
  (try dsimp only)
  refine ai (d9 (d8
   (I:=λx c b=>b=d/\∃l r,c=(none,l,r)/\l<=r/\r<=k/\r-l<=k-x/\(∀i,i<l->K (arrOf d) (lo+i)<=K (arrOf d) (lo+k))/\(∀i,r<=i->i<k->K (arrOf d) (lo+k)<=K (arrOf d) (lo+i)))
   (Q:=λc b=>b=d/\∃l,c=(none,l,l)/\l<=k/\(∀i,i<l->K (arrOf d) (lo+i)<=K (arrOf d) (lo+k))/\(∀i,l<=i->i<k->K (arrOf d) (lo+k)<=K (arrOf d) (lo+i))) ?Bl ?L5 ⟨rfl,0,k,rfl,(dE _),(au _),(au _),(λi q=>by lia),λi o v=>by lia⟩) ?Bm)
  case L5 =>
   rintro c b ⟨rfl,l,r,rfl,H,t,J,g,m⟩
   have:l=r:=by lia
   subst this;exact⟨rfl,l,rfl,t,g,m⟩
  case Bl =>
   rintro x c b _ Z ⟨rfl,l,r,rfl,H,t,J,g,m⟩
   (try dsimp only)
   by_cases y:l>=r
   ·rw[if_pos y];have:l=r:=by lia
    subst this;exact aA ⟨rfl,l,rfl,t,g,m⟩
   rw[if_neg y];refine ai (e.lt B (by lia) (by lia) ?_)
   (try dsimp only)
   by_cases hw:K (arrOf b) (lo+k)<K (arrOf b) (lo+(l+r)/2)
   ·rw[if_pos (dq hw)];refine aA ⟨rfl,_,_,rfl,by lia,by lia,by lia,g,λi o v=>?_⟩
    have:=z (lo+(l+r)/2) (lo+i) (fZ _ _) (by lia) (by lia)
    lia
   ·rw[if_neg (λq=>hw (fJ q))]
    refine aA ⟨rfl,_,_,rfl,by lia,by lia,by lia,λi o=>?_,m⟩
    have:=z (lo+i) (lo+(l+r)/2) (fZ _ _) (by lia) (by lia)
    lia
  case Bm =>
   rintro c b ⟨rfl,l,rfl,l1,L,M⟩
   (try dsimp only)
   have f:lo+k<(arrOf b).size:=by rw[e.size];lia
   refine ai (gE ?_);refine aA ⟨rfl,e.set (bubble_perm _ _ _) (λi hi=>by
    show K (bubble (arrOf b) (lo+k) (lo+k-(lo+l))) i=_;rw[K_bubble f (by lia),if_neg (by lia),if_neg (by lia)]),λp q o v q3=>?_⟩
   show K (bubble (arrOf b) (lo+k) (lo+k-(lo+l))) p<=K (bubble (arrOf b) (lo+k) (lo+k-(lo+l))) q;rw[K_bubble f (by lia),K_bubble f (by lia)]
   have u:∀i j,i<=j->j<k->K (arrOf b) (lo+i)<=K (arrOf b) (lo+j):=λi j e1 e2=>z _ _ (fZ _ _) (by lia) (by lia)
   obtain⟨i,rfl⟩:∃i,p=lo+i:=⟨p-lo,by lia⟩
   obtain⟨j,rfl⟩:∃j,q=lo+j:=⟨q-lo,by lia⟩
   by_cases N:i<l
   ·rw[if_neg (by lia),if_neg (by lia)]
    by_cases R:j<l
    ·rw[if_neg (by lia),if_neg (by lia)];exact u i j (by lia) (by lia)
    ·by_cases T:j=l
     ·rw[if_pos (by lia)];exact L i N
     ·rw[if_neg (by lia),if_pos (by lia),show lo+j-1=lo+(j-1) by lia];exact u i (j-1) (by lia) (by lia)
   ·by_cases R:i=l
    ·rw[if_pos (by lia)]
     by_cases T:j=l
     ·rw[if_pos (by lia)];exact pT _
     ·rw[if_neg (by lia),if_pos (by lia),show lo+j-1=lo+(j-1) by lia];exact M (j-1) (by lia) (by lia)
    ·rw[if_neg (by lia),if_pos (by lia),if_neg (by lia),if_pos (by lia),show lo+i-1=lo+(i-1) by lia,show lo+j-1=lo+(j-1) by lia]
     exact u (i-1) (j-1) (by lia) (by lia)
end
section
variable {prog:Program} {w:World} {A:Around} {E:Value->Shared->Prop} {s:Shared} {st:SortSt} {a:Array Keyed}
def T1(a:Array Keyed):Prop:=(a.toList.map ky).Nodup
def T1.ne(h:T1 a)(h1:p<q)(b:q<a.size):K a p≠K a q:=by
 obtain⟨x,c,ex⟩:=fO (arr:=a) (i:=p) (by lia)
 obtain⟨y,d,f⟩:=fO b;intro e;rw[ex,f]at e;have g:∀{i:Nat} {x:Keyed},a[i]?=some x->(a.toList.map ky)[i]?=some (ky x):=λ{i x} h=>by rw[cw,mL,h];rfl
 have:=(List.getElem?_inj (by rw[aD,da];lia) h).mp ((g c).trans ((dO some e).trans (g d).symm))
 lia
def T1.perm(h:T1 a)(p:b.Perm a):T1 b:=((sN.mp p).map ky).nodup_iff.mpr h
def IW(h1:64<=n)(c:n<128):minRun' n n 0=n/2+n%2:=by
 obtain⟨f,b⟩:∃f,n=f+2:=⟨n-2,by lia⟩
 have e:∀m,minRun' (f+2) m 0=if m<64 then m+0 else(if m/2<64 then m/2+max 0 (m%2)else minRun' f (m/2/2) (max (max 0 (m%2)) (m/2%2))):=λm=>rfl
 have:=e n;rw[if_neg (by lia),if_pos (by lia)]at this
 rw[<-b]at this;rw[this]
 lia
def Two(a:Array Keyed)(st:SortSt):Prop:=∃b c,0<b/\b<a.size/\RB a 0 #[(0,b,c),(b,a.size-b,0)] st/\vQ (arrOf st) 0 b/\vQ (arrOf st) b a.size
def One(a:Array Keyed)(st:SortSt):Prop:=(arrOf st).toList.Perm a.toList/\failedOf st=none/\Up (arrOf st)/\(pendingOf st).size=1
def Br(H:IntKeys a)(g:RB a 0 #[] st)(z1:64<=a.size)(z2:a.size<128)(hd:T1 a)(h:∀d,One a d->Q () d):wpS (model prog w) A E s sortRuns' Q st:=by
 refine ai (fB ?_)
 (try dsimp only)
 have J:=g.size;have L:=IW z1 z2;rw[J];rw[show(sortPriv% PySem.Builtin.minRun) a.size a.size 0=a.size/2+a.size%2 from L]
 generalize hr:a.size/2+a.size%2=l
 refine ai (d9 (d8
  (I:=λx c d=>(x=0/\c=(none,0)/\RB a 0 #[] d)\/(x=1/\∃b,c=(none,b)/\0<b/\b<=a.size/\l<=b/\RB a 0 #[(0,b,0)] d/\vQ (arrOf d) 0 b)\/(2<=x/\c=(none,a.size)/\Two a d))
  (Q:=λc d=>c.1=none/\(One a d\/Two a d)) ?step ?fin (.inl ⟨rfl,rfl,g⟩)) ?post)
 case fin =>
  rintro c d (⟨q,_⟩ | ⟨q,_⟩ | ⟨_,rfl,t⟩)
  ·lia
  ·lia
  ·exact⟨rfl,.inr t⟩
 case post =>
  rintro c d ⟨e,hc⟩
  (try dsimp only)
  rw[e]
  (try dsimp only)
  refine ai (d9 (d8
   (I:=λx c d=>c=(none,())/\(One a d\/x=0/\Two a d))
   (Q:=λc d=>c=(none,())/\One a d) ?aat ?ae7 ⟨rfl,hc.imp id λt=>⟨rfl,t⟩⟩) ?aau)
  case ae7 =>
   rintro c d ⟨rfl,o | ⟨q,_⟩⟩
   ·exact⟨rfl,o⟩
   ·lia
  case aau =>
   rintro c d ⟨rfl,o⟩
   exact aA (h d o)
  case aat =>
   rintro x c d _ _ ⟨rfl,o | ⟨q,b,pw,t1,t2,t3,t4,t5⟩⟩
   ·refine ai (fB ?_)
    (try dsimp only)
    rw[if_pos (by rw[o.2.2.2];exact au _)]
    exact aA ⟨rfl,o⟩
   ·refine ai (fB ?_)
    (try dsimp only)
    have e2:(pendingOf d).size=2:=by rw[t3.pend];rfl
    rw[e2,if_neg (by lia)]
    refine ai (EI t3.kind t3.failed (t3.ints H) t3.pend t1 (by lia) (by rw[t3.size];lia) t4 (by rw[show b+(a.size-b)=a.size by lia];exact t5) λj p1 p2 p3 p4=>?_)
    exact aA ⟨rfl,.inl ⟨p1.trans (sN.mp t3.perm),p3,p2,by rw[p4];rfl⟩⟩
 case step =>
  rintro x c d _ hx (⟨rfl,rfl,g⟩ | ⟨rfl,b,rfl,Y,n2,n3,g,M⟩ | ⟨hx2,rfl,t⟩)
  ·(try dsimp only)
   rw[if_neg (by lia)]
   refine ai (qC H g (by lia) (jf ‹_› ‹_›) (λp q _ r B=>(hd.perm g.perm).ne r (by rw[g.size];lia)) λm j i N m2 C=>?_)
   (try dsimp only)
   by_cases D:m<l
   ·rw[if_pos D];refine ai (kO (gD ⟨rfl,?_⟩));refine ai (mj H i (by lia) N (by lia) C λv k u=>?_)
    rw[if_neg (by simp)]
    refine ai (fB ?_);rw[show(pendingOf v).back?=none by rw[k.pend];rfl]
    (try dsimp only)
    refine ai (gE ?_);refine aA (.inr (.inl ⟨rfl,_,rfl,by lia,by lia,by lia,⟨k.perm,k.kind,k.failed,?_,k.low⟩,?_⟩))
    ·show(pendingOf v).push _=_;rw[k.pend];show #[(0,min (a.size-0) l,0)]=_;rw[dZ]
    ·exact u
   ·rw[if_neg D];refine ai (fB ?_);rw[show(pendingOf j).back?=none by rw[i.pend];rfl]
    (try dsimp only)
    refine ai (gE ?_);refine aA (.inr (.inl ⟨rfl,_,rfl,(dn ‹_›),by lia,by lia,⟨i.perm,i.kind,i.failed,?_,i.low⟩,?_⟩))
    ·show(pendingOf j).push _=_;rw[i.pend];show #[(0,m,0)]=_;rw[dZ]
    ·exact C
  ·(try dsimp only)
   by_cases Z:b>=a.size
   ·rw[if_pos Z];have e:b=a.size:=by lia
    refine aA ⟨rfl,.inl ⟨sN.mp g.perm,g.failed,L7 ?_,by rw[g.pend];rfl⟩⟩
    rw[g.size,<-e];exact M
   rw[if_neg Z];have R:RB (arrOf d) b #[(0,b,0)] d:=⟨Array.Perm.refl _,g.kind,g.failed,g.pend,λ_ _=>rfl⟩
   have hI:IntKeys (arrOf d):=g.ints H;have hS:=g.size;refine ai (m:=countRun' b (a.size-b)) (qC hI R (by lia) (by lia) (λp q _ r B=>(hd.perm g.perm).ne r (by lia)) λm j i N m2 C=>?_)
   (try dsimp only)
   have em:min (a.size-b) l=a.size-b:=by lia
   by_cases D:m<l
   ·rw[if_pos D];refine ai (kO (gD ⟨rfl,?_⟩));refine ai (m:=binarySort' b (min (a.size-b) l) m) (mj hI i (by lia) N (by lia) C λv k u=>?_)
    rw[if_neg (by simp)]
    have eN:b+min (a.size-b) l=a.size:=by lia
    refine ai (fB ?_);rw[show(pendingOf v).back?=some (0,b,0) by rw[k.pend];rfl]
    (try dsimp only)
    refine ai (d9 (d8 (I:=λ_ c f=>f=v/\c=(none,())) (Q:=λc f=>f=v/\c=(none,())) ?_ (λ_ _ T=>T) ⟨rfl,rfl⟩) ?_)
    ·rintro y c f _ _ ⟨rfl,rfl⟩
     refine ai (fB ?_)
     (try dsimp only)
     rw[show(pendingOf f).size=1 by rw[k.pend];rfl,if_neg (by lia)]
     exact aA ⟨rfl,rfl⟩
    ·rintro c f ⟨rfl,rfl⟩
     (try dsimp only)
     refine ai (gE ?_);refine ai (gE ?_);refine aA (.inr (.inr ⟨au _,by rw[eN],b,power' a.size (2*0+b) (2*0+b+b+min (a.size-b) l) a.size,Y,(D9 ‹_›),⟨k.perm.trans g.perm,k.kind,k.failed,?_,λ_ z=>absurd z (Ed _)⟩,λp q X r B=>?_,?_⟩))
     ·show((pendingOf f).modify ((pendingOf f).size-1) _).push _=_;rw[k.pend,em];rfl
     ·show K (arrOf f) p<=K (arrOf f) q;rw[k.low p (jf ‹_› ‹_›),k.low q (‹_›)];exact M p q X r B
     ·show vQ (arrOf f) b a.size;have:=u
      rwa [eN]at this
   ·rw[if_neg D];have eM:m=a.size-b:=by lia
    have eN:b+m=a.size:=by lia
    refine ai (fB ?_);rw[show(pendingOf j).back?=some (0,b,0) by rw[i.pend];rfl]
    (try dsimp only)
    refine ai (d9 (d8 (I:=λ_ c f=>f=j/\c=(none,())) (Q:=λc f=>f=j/\c=(none,())) ?_ (λ_ _ T=>T) ⟨rfl,rfl⟩) ?_)
    ·rintro y c f _ _ ⟨rfl,rfl⟩
     refine ai (fB ?_)
     (try dsimp only)
     rw[show(pendingOf f).size=1 by rw[i.pend];rfl,if_neg (by lia)]
     exact aA ⟨rfl,rfl⟩
    ·rintro c f ⟨rfl,rfl⟩
     (try dsimp only)
     refine ai (gE ?_);refine ai (gE ?_);refine aA (.inr (.inr ⟨au _,by rw[eN],b,power' a.size (2*0+b) (2*0+b+b+m) a.size,Y,(D9 ‹_›),⟨i.perm.trans g.perm,i.kind,i.failed,?_,λ_ z=>absurd z (Ed _)⟩,λp q X r B=>?_,?_⟩))
     ·show((pendingOf f).modify ((pendingOf f).size-1) _).push _=_;rw[i.pend,eM];rfl
     ·show K (arrOf f) p<=K (arrOf f) q;rw[i.low p (jf ‹_› ‹_›),i.low q (‹_›)];exact M p q X r B
     ·show vQ (arrOf f) b a.size;have:=C
      rwa [eN]at this
  ·(try dsimp only)
   rw[if_pos (au _)];exact aA ⟨rfl,.inr t⟩
end
section
variable {prog:Program} {w:World} {A:Around} {E:Value->Shared->Prop} {s:Shared}
def Wl(a:IntsAre vs ns)(b:ns.Nodup):T1 (pairsOf vs):=by
 unfold T1;rw[pairsOf_toList];have:(vs.zip vs).map ky=((vs.zip vs).map Prod.fst).map numOf:=by simp_all
 rw[this,List.map_fst_zip (au _),a.nums];exact b
def Ma(ho:s.heap.get? a=some (seqObj "list" vs.toArray n))(f:IntsAre vs ns)(x:ns.Nodup)(g:64<=vs.length)(y:vs.length<128)
  (h:∀(out:Array Value) (c:List Int),IntsAre out.toList c->c.Perm ns->c.Pairwise (· <= ·)->P (.done (.ret .none)) {s with heap:=sortedHeap s.heap a vs out}) :
  wpAny (model prog w) A (Builtin.«list.sort» ⟨[.ref a],[]⟩) P E s:=by
 rw[list_sort_plain];have q:=br ho;refine ag (listItems_at ho rfl ?_);refine ag (listUpdate_at ho rfl ?_);obtain⟨e1,t⟩:∃e1,(s.heap.update a (Obj.mapSeq λ_=>#[])).get? a=some (seqObj "list" #[] e1):=⟨_,get?_update_seq ho (λ_=>#[])⟩
 refine ag (seqEpoch_at t rfl ?_);refine ag (wpAny_newTuple ?_);refine ag (wpAny_newList ?_);refine fy ?_;have d:(((s.heap.update a (Obj.mapSeq λ_=>#[])).push (seqObj "tuple" vs.toArray 0)).push (seqObj "list" #[] 0)).get? a=some (seqObj "list" #[] e1):=by
  rw[Heap.get?_push_ne _ _ _ (by rw[size_push',Heap.size_update];exact bL (yq q)),Heap.get?_push_ne _ _ _ (by rw[Heap.size_update];exact bL q)]
  exact t
 show wpAny (model prog w) A _ P E {s with heap:=((s.heap.update a (Obj.mapSeq λ_=>#[])).push (seqObj "tuple" vs.toArray 0)).push (seqObj "list" #[] 0)}
 dsimp only
 have B:vs.toArray.size=vs.length:=by simp
 rw[if_neg (by lia),if_neg (by lia)]
 obtain⟨k,l,b,rfl⟩:∃k l b,vs=k::l::b:=by
  cases vs with
  | nil=>simp at g
  | cons v r=>cases r with
   | nil=>simp at g
   | cons u r=>exact⟨v,u,r,rfl⟩
 rw[keyKind_ints f];refine ag (ao ?_);refine ag (kM (Br
  (Q:=λ_ m=>One (pairsOf (k::l::b)) m) f.intKeys ⟨Array.Perm.refl _,rfl,rfl,rfl,λ_ _=>rfl⟩ (by rw[pairsOf_size];exact g) (by rw[pairsOf_size];exact y) (Wl f x) λm o=>o) ?_ λ_ _ e=>e)
 rintro⟨⟨⟩,m⟩ M ⟨rfl,hp,hf,C,_⟩
 have p:=sN.mpr hp;dsimp only
 refine ag (seqEpoch_at d rfl ?_);refine ag (listUpdate_at d rfl ?_ (hsz2:=by refine bC (gS ((Array.size_map ..).trans (p.size_eq.trans (pairsOf_size _)))) ?_;rw[yE];lia))
 rw[hf];simp only[bne_self_eq_false,tf,jR];obtain⟨c,D,H,I⟩:=sorted_out f p λi j J L=>rn C J (by rw[p.size_eq];exact L)
 exact ao (h _ c D H I)
def EL(d:s.heap.IsList l vs.toArray)(e:IntsAre vs ns)(g:ns.Nodup)(i:vs.length<128)
  (h:∀(out:Array Value) (a:List Int),IntsAre out.toList a->a.Perm ns->a.Pairwise (· <= ·)->Q (.ref (s.heap.objs.size+1)) {s with heap:=sortedAll s.heap vs out}) :
  wpAny (model prog w) A (call (.builtin "sorted") [.ref l]) Q E s:=by
 by_cases c:vs.length<64
 ·exact sorted_ints d e c h
 refine DN kind_sorted plain_sorted entry_sorted (args_sorted1 _) ?_;unfold Builtin.«sorted»;refine ag (ao ?_);refine ag (collect_list d ?_);refine ag (wpAny_newList ?_);have b:((s.heap.push (seqObj "list" #[] 0)).update s.heap.objs.size (Obj.mapSeq (· ++ vs.toArray))).objs.size=s.heap.objs.size+1:=by
  simp_all
 have f:(((s.heap.push (seqObj "list" #[] 0)).update s.heap.objs.size (Obj.mapSeq (· ++ vs.toArray))).push (seqObj "list" vs.toArray 0)).get? (s.heap.objs.size+1)=some (seqObj "list" vs.toArray 0):=by
  rw[<-b];exact cU _ rfl
 show wpAny _ _ _ _ _ {s with heap:=((s.heap.push (seqObj "list" #[] 0)).update s.heap.objs.size (Obj.mapSeq (· ++ vs.toArray))).push (seqObj "list" vs.toArray 0)}
 rw[b];refine ag (fy (iq slot_list_sort ⟨_,f,rfl⟩ entry_list_sort (Ma f e g (pG ‹_›) i λout a j k m=>⟨_,rfl,?_⟩) (args_list_sort _)))
 exact ao ⟨_,rfl,h out a j k m⟩
def EM(c:s.heap.IsList l vs.toArray)(d:IntsAre vs ns)(a:vs.length<64\/vs.length<128/\ns.Nodup)
  (h:∀(out:Array Value) (b:List Int),IntsAre out.toList b->b.Perm ns->b.Pairwise (· <= ·)->Q (.ref (s.heap.objs.size+1)) {s with heap:=sortedAll s.heap vs out}) :
  wpAny (model prog w) A (call (.builtin "sorted") [.ref l]) Q E s:=by
 rcases a with a | ⟨a,e⟩
 ·exact sorted_ints c d a h
 ·exact EL c d e a h
end
end OU
namespace L2
open PySem PySem.Spec PyProof.Rows
section
variable {κ:Type} [DecidableEq κ]
noncomputable def kr(kvs:List (κ×V))(k:κ):Option V:=(kvs.find? λa=>decide (a.1=k)).map (·.2)
noncomputable def putK(kvs:List (κ×V))(k:κ)(v:V):List (κ×V) :=
 if(kvs.any λa=>decide (a.1=k))=true then kvs.map (λa=>if a.1=k then(a.1,v)else a)else kvs++[(k,v)]
def nV{p:κ×V}{r:List (κ×V)}{k:κ}(e:p.1=k):kr (p::r) k=some p.2:=by simp[kr,tD,e]
def nW{p:κ×V}{r:List (κ×V)}{k:κ}(e:¬p.1=k):kr (p::r) k=kr r k:=by simp[kr,tD,e]
theorem uk(k:κ):∀kvs:List (κ×V),(kvs.any λa=>decide (a.1=k))=(kr kvs k).isSome
 | []=>rfl
 | p::r=>by
  rw[iy];by_cases e:p.1=k
  ·simp only[nV e,dq e,Bool.true_or,Option.isSome_some]
  ·rw[nW e,iu e,Bool.false_or];exact uk k r
def Mb{kvs:List (κ×V)}{k:κ}(v:V)(h:kr kvs k=none):putK kvs k v=kvs++[(k,v)]:=by
 unfold putK;rw[uk,h];exact if_neg (by decide)
def tW.w9{o:Option V}{u:Option Value}(r:tW o u):o.isSome=u.isSome:=by
 cases o with
 | none=>cases u with
  | none=>rfl
  | some _=>exact(show False from r).elim
 | some _=>cases u with
  | none=>exact(show False from r).elim
  | some _=>rfl
def tW.getD{o:Option V}{u:Option Value}{d:V}{a:Value}(r:tW o u)(rd:RelV d a):RelV (o.getD d) (u.getD a):=by
 cases o with
 | none=>cases u with
  | none=>exact rd
  | some _=>exact(show False from r).elim
 | some _=>cases u with
  | none=>exact(show False from r).elim
  | some _=>exact r
def KV.val{kvs:List (κ×V)}{vs:List (κ×Value)}(r:KV kvs vs)(k:κ):tW (kr kvs k) (valueAt vs k):=by
 unfold KV at r;induction r with
 | nil=>exact True.intro
 | @cons p q ps a h t ih =>
  obtain⟨f,d⟩:=h;by_cases e:p.1=k
  ·have c:q.1=k:=by grind
   have b:valueAt (q::a) k=some q.2:=by simp[valueAt,tD,c]
   rw[nV e,b];exact d
  ·have c:¬q.1=k:=by grind
   have b:valueAt (q::a) k=valueAt a k:=by simp[valueAt,tD,c]
   rw[nW e,b];exact ih
def KV.any{kvs:List (κ×V)}{vs:List (κ×Value)}(r:KV kvs vs)(k:κ):(kvs.any λa=>decide (a.1=k))=vs.any λa=>decide (a.1=k):=by
 unfold KV at r;induction r with
 | nil=>rfl
 | cons h t ih=>rw[iy,iy,ih,h.1]
def KV.ae9{kvs:List (κ×V)}{vs:List (κ×Value)}(r:KV kvs vs)(k:κ){y:V}{u:Value}(b:RelV y u) :
  KV (kvs.map λa=>if a.1=k then(a.1,y)else a) (vs.map λa=>if a.1=k then(a.1,u)else a):=by
 unfold KV at r ⊢;induction r with
 | nil=>exact .nil
 | @cons p q ps c h t ih =>
  rw[aH,aH];refine .cons ?_ ih;obtain⟨d,f⟩:=h;by_cases e:p.1=k
  ·grind
  ·grind
def KV.put{kvs:List (κ×V)}{vs:List (κ×Value)}(r:KV kvs vs)(k:κ){y:V}{u:Value}(a:RelV y u):KV (putK kvs k y) (stored vs k u):=by
 unfold putK stored;rw[r.any k];by_cases e:(vs.any λb=>decide (b.1=k))=true
 ·rw[if_pos e,if_pos e];exact r.ae9 k a
 ·rw[if_neg e,if_neg e];exact Paired.snoc r ⟨rfl,a⟩
theorem KV.length{kvs:List (κ×V)}{vs:List (κ×Value)}(r:KV kvs vs):kvs.length=vs.length:=pM r
end
def um{P:Program}{w:World}{k:bO}{u:Value}(r:RelV (kV k) u):(ez P w).is k u=true:=by
 cases k with
 | inl i=>obtain⟨t,e⟩:=(show ∃t,u=Value.int i t from r);subst e;exact A3 P w i t
 | inr x=>obtain⟨t,e⟩:=(show ∃t,u=Value.str x t from r);subst e;exact A4 P w x t
theorem xb{P:Program}{w:World}:∀{ks:List bO} {us:List Value},Vals (ks.map kV) us->ItemsAre (ez P w) ks us
 | [],_,r=>by rw[pO]at r;cases r;exact .nil
 | k::ks,_,r=>by
  rw[aH]at r;cases r with
  | cons h t=>exact .cons (um h) (xb t)
section
variable {P:Program} {w:World} {H:Hp} {h:Heap} {a:Addr}
def T2{u:HO}(ok:mU P w H h)(e:Rd H a u):gB P w H h a u:=e.ok ok
def GW{kvs:List (bO×V)}(ok:mU P w H h)(e:Rd H a (.dK kvs)):kvs.length<=sizeLine/\(a==sysModules)=false/\∃vs,KV kvs vs/\h.DictOf (ez P w) a vs :=
 show gB P w H h a (.dK kvs)from T2 ok e
def T3{kvs:List (bO×V)}(ok:mU P w H h)(e:H a=some (.dK kvs)):kvs.length<=sizeLine/\(a==sysModules)=false/\∃vs,KV kvs vs/\h.DictOf (ez P w) a vs:=GW ok (.inl e)
end
section
variable {X:Cx} {ae:List (Addr×Obj)} {σ:St} {H:Hp} {s:Shared} {a b:Addr} {k:List bO} {v:V} {r:Value} {A:Around} {E:Value->Shared->Prop} {xs:List (List bO×Addr×Value)}
def key_is(I:Inv X ae σ H s)(e:jx X.K H a (k.map kV)):(tupleKind (ez X.prog X.w)).is s.heap k a:=by
 obtain⟨c,r,⟨o,d,f,n,g⟩,_⟩:=I.tuple e;exact⟨o,c.toArray,n,d,f,g,by simpa using xb r⟩
def Bs(I:Inv X ae σ H s)(e:Rd H a (.dT xs))(hk:gT X.K H xs):xs.length<=sizeLine/\(a==sysModules)=false/\s.heap.DictOfH (tupleKind (ez X.prog X.w)) a xs:=by
 obtain⟨z,y,o,c,d,f,g,i,j,l⟩:=(show gB X.prog X.w H s.heap a (.dT xs)from T2 I.hok e)
 exact⟨z,y,o,c,d,f,g,i,j,λx m=>key_is I (hk x m),l⟩
def aav{Q:Value->Shared->Prop}(d:A.units+1<cLine)(I:Inv X ae σ H s)(e:Rd H a (.dT xs))(hk:gT X.K H xs)(f:jx X.K H b (k.map kV))(h:∀c,Inv X ae σ H c->Q (.bool (atKey xs k).isSome) c) :
  wpAny (model X.prog X.w) A (compareOp .In (.ref b) (.ref a)) Q E s:=by
 obtain⟨_,hd,g⟩:=Bs I e hk;exact wpAny_in_heap (yj d) (key_is I f) hd g (h _ (I.tok _))
def aaw{Q:Value->Shared->Prop}(d:A.units+1<cLine)(I:Inv X ae σ H s)(e:Rd H a (.dT xs))(hk:gT X.K H xs)(f:jx X.K H b (k.map kV)) (h:∀c,Inv X ae σ H c->Q (.bool (!(atKey xs k).isSome)) c) :
  wpAny (model X.prog X.w) A (compareOp .NotIn (.ref b) (.ref a)) Q E s:=by
 obtain⟨_,hd,g⟩:=Bs I e hk;exact wpAny_notIn_heap (yj d) (key_is I f) hd g (h _ (I.tok _))
def aax{Q:Value->Shared->Prop}{p:Addr×Value}(d:A.units+1<cLine)(I:Inv X ae σ H s)(e:Rd H a (.dT xs))(hk:gT X.K H xs)(f:jx X.K H b (k.map kV))(hp:atKey xs k=some p)(h:∀c,Inv X ae σ H c->Q p.2 c) :
  wpAny (model X.prog X.w) A (getItem (.ref a) (.ref b)) Q E s:=by
 obtain⟨_,hd,g⟩:=Bs I e hk;exact wpAny_getItem_heap (yj d) (key_is I f) g hp (h _ (I.tok _))
def EN{c:Type} [DecidableEq c] (xs:List (c×Addr×Value)) (k:c) (a:Addr) (v:Value):(storedH xs k a v).length<=xs.length+1:=by
 unfold storedH;split
 ·grind
 ·grind
def Wq{Q:Unit->Shared->Prop}(g:A.units+1<cLine)(I:Inv X ae σ H s)(e:H a=some (.dT xs))(hk:gT X.K H xs)(i:jx X.K H b (k.map kV))(j:xs.length<sizeLine)
  (h:∀d,Inv X ae σ (dj H a (.dT (storedH xs k b r))) d->Q () d):wpAny (model X.prog X.w) A (setItem (.ref a) (.ref b) r) Q E s:=by
 obtain⟨_,hd,l⟩:=Bs I (.inl e) hk;refine wpAny_setItem_heap (hsz:=dN j) (yj g) (key_is I i) l λD m o=>h _ ?_
 obtain⟨q,p,t,f,u,y,B,_,C⟩:=m;exact I.write (x:=a) (e:=a) (by rw[e];exact True.intro) (.inl rfl) (λc J hc z=>(o.2 c hc).trans z) ⟨q,f⟩ ⟨(by have:=EN xs k b r;lia),hd,q,p,t,f,u,y,B,C⟩
def uo(I:Inv X ae σ H s):sysModules<s.heap.objs.size:=pQ (by decide) (show mainGlobals<s.heap.objs.size from(I.mod.glob.keeps I.bk).lt)
def T4(o:HO):TE:=λ_ H Q=>∀p,H p=none->Q (.ref p) (dj H p o)
def QY{pos:Pos}:PE X (.Dict [] [] pos) (T4 (.dT [])):=λae s σ H Q I h =>
 wpAny_Dict_empty ⟨.ref s.heap.objs.size,_,I.laid (a:=s.heap.objs.size) (o:=.dT []) (t':=s.toks) (λ_ _ q=>bA _ q) (au _)
  ⟨dE _,kC.mpr (ee (bL (uo I))),_,#[],0,cU _ rfl,⟨rfl,rfl,rfl⟩,rfl,rfl,mR⟩,rfl,h _ (I.hok.fresh (au _))⟩
def IX{c:Type} [DecidableEq c] (xs:List (c×Addr×Value)) (k:c):(atKey xs k).isSome=(xs.map (·.1)).any λj=>decide (j=k):=by
 unfold atKey;rw[D3,List.any_map,List.isSome_find?];rfl
end
noncomputable def T5(CX:Ky)(P:Program)(w:World)(K:W.Frag)(mg:Str->Option Value)(base:Heap)(N:List Str)(qual:Str)(a:Scope)(f:Addr)(cd:Value)(cl:List (Str×Addr))(A:Around)(aB:List Env)(s:Shared)(H:Hp)(E:XK):Cx where
 prog:=P
 w:=w
 K:=K
 mg:=mg
 base:=base
 A:=A.deeper (W.envX qual a s.heap.objs.size f cd cl)
 N:=N
 s₀:=s
 aa:=H
 env:=W.envX qual a s.heap.objs.size f cd cl
 aB:=aB
 stack:=W.envX qual a s.heap.objs.size f cd cl::aB
 ex:=[]
 calm:=true
 fn:=λ_=>false
 pn:=[]
 xe:=λe c=>wpAny (model P w) (A.deeper (W.envX qual a s.heap.objs.size f cd cl)) (leaving (W.envX qual a s.heap.objs.size f cd cl) e) (λ_ b=>CX aB H s E e b) (λd b=>CX aB H s E d b) c
structure mY (h:Heap) (H:Hp) (scope:Scope) (cl:List (Str×Addr)) (N:List Str) (τ:St):Prop where
 inj:∀x y c,cl.lookup x=some c->cl.lookup y=some c->x=y
 has:∀x,scope.names.lookup x=some .free->∃c,cl.lookup x=some c
 cell:∀x c,cl.lookup x=some c->∃v,h.IsCell c v
 free:∀x c,cl.lookup x=some c->H c=none
 val:∀(i:Nat) (x:Str) (v:V),N[i]?=some x->τ[i]?=some (some v)->∃c u,scope.names.lookup x=some .free/\cl.lookup x=some c/\h.IsCell c (some u)/\RelV v u
 len:τ.length=N.length
def mY.un(C:mY h H scope cl N τ)(u:Un fs [] H H' h h'):mY h' H' scope cl N τ where
 inj:=C.inj
 has:=C.has
 cell:=λx c e=>by
  obtain⟨v,o,ho,hd⟩:=C.cell x c e;obtain⟨a,q⟩:=u.any ho (C.free x c e) (by simp)
  exact⟨v,_,q,hd⟩
 free:=λx c e=>by
  obtain⟨v,o,ho,hd⟩:=C.cell x c e;exact u.free c o ho (C.free x c e) (by simp)
 val:=λi x v e1 b=>by
  obtain⟨c,w,k,e,⟨o,ho,hd⟩,r⟩:=C.val i x v e1 b;obtain⟨a,q⟩:=u.any ho (C.free x c e) (by simp)
  exact⟨c,w,k,e,⟨_,q,hd⟩,r⟩
 len:=C.len
def QZ{K:W.Frag}
  (hk:scope.kind=.function) (t:scope.names.lookup x=some .local) (B:∀y∈scope.names,y.2≠.cell) (hd:A.handled=none) (a:Env0 P w K l base A m s H) (r:RelV v u) (C:mY s.heap H scope cl N q)
  (D:h1.Ns s.heap.objs.size λy=>[(x,u)].reverse.lookup y) (d:∀b o,s.heap.get? b=some o->h1.get? b=some o) :
  Inv (T5 CX P w K l base (x::N) qual scope f cd cl A m s H E) [] (some v::q) H {s with heap:=h1,toks:=tk}:=by
 have g:∀b:Addr,b∉(T5 CX P w K l base (x::N) qual scope f cd cl A m s H E).ex:=λb z=>absurd (show b∈([]:List Addr)from z) (by simp)
 refine⟨⟨a.mod,hk,rfl,rfl,au _,C.inj,λy j=>?_,λy c h _=>(by cases h),λ_=>hd,Around.frames_deeper a.frames,.inr ⟨rfl,rfl⟩,λb z=>absurd z (g b),a.bs,a.bsz,λb _ _=>g b,λb z=>absurd z (g b),a.funs,a.frf,a.tabs⟩,
  rfl,a.bare,Un.kept d,⟨_,D,λi y z h1 Q R=>?_⟩,λy c h=>?_,a.hok.fresh (au _),λy c h=>C.free y c h,λp hp=>absurd (show p∈([]:List (Addr×Obj))from hp) (by simp),a.hok.kept d,?_⟩
 ·have j:scope.names.lookup y=some .cell\/scope.names.lookup y=some .free:=j;rcases j with j | j
  ·exact absurd rfl (B _ (fq j))
  ·exact C.has y j
 ·cases i with
  | zero =>
   have e1:x=y:=cL (h1);have I:v=z:=by grind
   subst e1 I;exact⟨u,r,.inl ⟨t,by simp⟩⟩
  | succ i =>
   obtain⟨c,J,k,e,L,M⟩:=C.val i y z (by simpa using (show(x::N)[i+1]?=some y from h1)) (by grind)
   exact⟨J,M,.inr ⟨.inr k,c,e,L.keeps d⟩⟩
 ·obtain⟨v,z⟩:=C.cell y c h;exact⟨v,z.keeps d⟩
 ·show(some v::q).length=(x::N).length;rw[aR,aR,C.len]
def Ra{K:W.Frag}
  (ho:s.heap.get? f=some o) (B:o.data=.func (W.kla_fn name qual d body scope cl pm c D)) (L:s.heap.CodeRec c qual) (hr:dW (k+1) A) (g:Env0 P w K M base A m s H)
  (R:bindArgs (W.kla_fn name qual d body scope cl pm c D) ⟨[u],[]⟩=pure [(x,u)]) (r:RelV v u) (hk:scope.kind=.function) (T:scope.isCoroutine=false) (X:scope.isGenerator=false) (Y:scope.names.lookup x=some .local) (p:∀y∈scope.names,y.2≠.cell)
  (C:mY s.heap H scope cl N Z) (hbody:∃t,PE (T5 CX P w K M base (x::N) qual scope f c cl A m s H E) body t/\t (some v::Z) H Q) :
  codeAny (model P w) A (.call (.ref f) ⟨[u],[]⟩) (CR CX m P w H s Q E) s:=by
 have i:=g.mod.nolimit.keeps λb o e=>(g.bs b o e).1
 refine W.kla_callFunE hr.depth ho B T X rfl L ?_;rw[R];refine ao (wpAny_newFunctionEnv p (λy hy=>?_) (λIY L3 a=>⟨i.fresh _ a,?_⟩) hk)
 ·grind
 ·obtain⟨t,ht,hq⟩:=hbody;have j:∀b o,s.heap.get? b=some o->IY.get? b=some o:=λb o e=>a.extBut b o (bL (br e)) (bA _ e)
  have I:=QZ (CX:=CX) (qual:=qual) (f:=f) (cd:=c) (E:=E) (tk:=s.toks+1) hk Y p hr.hd g r C L3 j;refine W.kla_codeExpr (kM (ht [] _ _ H Q I hq) (λu' s' l=>?_) λe s' l=>l)
  obtain⟨v',H',J,rv,q⟩:=l;exact⟨v',H',J.os,J.bare,J.base,J.hok,rv,q⟩
def vZ{pos p:Pos}(l:List Value)(h:TriplesOk l)(e:codeAmong p (l++[rawInt pos.line,rawInt pos.col,c])=some d):codeAmong p l=some d\/d=c:=by
 fun_induction TriplesOk l with
 | case1 =>
  simp only[f9,codeAmong,rawInt]at e;split at e
  ·cases e;exact .inr rfl
  ·cases e
 | case2 a t b u x rest ih =>
  simp only[List.cons_append,codeAmong]at e ⊢;split at e
  ·rename_i hc;rw[if_pos hc];exact .inl e
  ·rename_i hc;rw[if_neg hc];exact ih h e
 | case3 l f g=>exact h.elim
def yY:HO:=.ext λ_=>True
def EO(e:h.get? a=some o):gB P w H h a (.qy o yY):=⟨e,trivial,⟨o,e⟩,λ_ _ _ _=>trivial⟩
def Bt(c:Str->Option Value)(a:Heap):Prop:=∃b o,c "__builtins__"=some (.ref b)/\b≠builtinsNs/\b≠mainGlobals/\a.get? b=some o/\o.cls=.type "module"/\o.dict=some builtinsNs/\o.data=.plain
def Mc(H:Hp)(f:Addr)(qual:Str)(params:Arguments)(b:Expr)(a:Scope)(cl:List (Str×Addr)):Prop :=
 ∃o u i d j c e k g t,H f=some (.qy o u)/\o.data=.func (W.kla_fn "<lambda>" qual params b a cl i d j)/\d=.ref c/\H c=some (.qy e k)/\e.data=.fields g/\g[1]?=some (.str qual t)
def afa(qual:Str)(params:Arguments)(c:Expr)(a:Scope)(cl:List (Str×Addr)):TE:=λ_ H Q=>∀f d,H f=none->cX H d->(∀b o,d b=some o->H b=some o\/H b=none)->Mc d f qual params c a cl->Q (.ref f) d
section
variable {X:Cx} {x:Str} {params:Arguments} {body:Expr} {scope:Scope} {lp:Pos} {cl:List (Str×Addr)} {c T:Addr}
def Wu(hx:x∈dF)(ht:W.tabIn X.K x=some (c,T))(hC:W.codeHdIn X.K c T=true)(T6:X.env.code=.ref c)(aaz:X.env.qual++"<lambda>"=A6 x)(hB:Bt X.mg X.base)
  (afb:defaultsOf y X.env=([],[])) (J:closureFor scope X.env=pure cl):PE X (.Lambda y body scope lp) (afa (A6 x) y body scope cl):=by
 intro ae s σ H Q I h;have B:=I.tabs x hx c T ht;obtain⟨ps,hP,k,T7⟩:=(I.hok T _ B);have C:=W.codeHd_of_K I.tZ hC;have hg:=I.mod.glob.keeps I.bk;obtain⟨bm,ob,b1,b2,b3,b4,b5⟩:=hB;have ne:∀{b:Addr} {o:Obj},X.base.get? b=some o->b≠T:=λ{b o} e z=>by
  have:=(I.bs b o e).2;rw[z,B]at this;cases this
 refine W.kla_eval afb ?_;rw[aaz];cases hc:codeAmong lp ps.toList with
 | some cv =>
  obtain⟨cc,L,uc,vs,t,rfl,k1,k2,k3⟩:=T7 lp cv hc;refine W.kla_makeFunctionHit J I.ok.glob hg T6 C hP k hc ⟨bm,ob,b1,b2,b3,ne b4,(I.bs _ _ b4).1,b5⟩ λKz f tk hk M=>?_
  have hn:=I.hok.fresh M;refine⟨.ref f.objs.size,dj H f.objs.size (.qy _ yY),I.laid (λb u e=>bA _ (hk b u e)) M (EO (cU _ rfl)),rfl,h _ _ hn (λb u e=>by rw[aZ (cV e hn)];exact e) (λb o e=>?_) ?_⟩
  ·by_cases E:b=f.objs.size
   ·grind
   ·rw[aZ E]at e;exact .inl e
  ·exact⟨_,_,_,_,_,cc,L,uc,vs,t,aK,rfl,rfl,by rw[aZ (cV k1 hn)];exact k1,k2,k3⟩
 | none =>
  refine W.kla_makeFunction J I.ok.glob hg T6 C hP k hc (by
   obtain⟨o,es,ep,e,_⟩:=I.mod.glob;exact ne e) ⟨bm,ob,b1,b2,b3,ne b4,(I.bs _ _ b4).1,b5⟩ λg Kz f tk ER Wv fW afc N=>?_
  obtain⟨aja,L,vs,t,e2,hoc,hd,hv⟩:=afc;cases e2;have l:=I.hok.fresh Wv;have R:=I.hok.fresh (bC Wv (dN fW));have nfc:=tM fW;have cT:g≠T:=λz=>by rw[z,B]at l;cases l
  have fT:f.objs.size≠T:=λz=>by rw[z,B]at R;cases R
  let m:HO:=.qy L yY
  let p:Hp:=dj H g m
  have hn1:p f.objs.size=none:=by show dj H g m _=_;rw[aZ nfc];exact R
  let D:Obj:=W.kla_obj "<lambda>" (A6 x) y body scope cl ((X.mg "__name__").getD .none) g Kz
  let Y:Hp:=dj p f.objs.size (.qy D yY)
  have r:cX H p:=λb u e=>by show dj H g m b=_;rw[aZ (cV e l)];exact e
  have a:cX p Y:=λb u e=>by show dj p _ _ b=_;rw[aZ (cV e hn1)];exact e
  have keep:∀b o,b≠T->s.heap.get? b=some o->(f.push D).get? b=some o:=λb o E e=>bA _ (ER b o E e)
  have nT:∀b,H b=none->b≠T:=λb n z=>by rw[z,B]at n;cases n
  have lt:∀b o,s.heap.get? b=some o->b<s.heap.objs.size:=λb o e=>br e
  have hf2:∀b o,s.heap.get? b=some o->H b=none->Y b=none:=λb o e n=>by
   show dj (dj H g m) _ _ b=none;have l1:=lt b o e;rw[aZ (bL (b8 l1 (bC Wv (dN fW)))),aZ (bL (b8 l1 Wv))];exact n
  have un:Un X.fs [] H Y s.heap (f.push D):=⟨λb o e n _ _=>keep b o (nT b n) e,λb o e n _ _=>⟨o.slots,keep b o (nT b n) e⟩,λb o e n _=>hf2 b o e n,λb o e _=>by
    by_cases E:b=T
    ·subst E;exact⟨_,bA _ N⟩
    ·exact⟨o,keep b o E e⟩,λb xs e=>a _ _ (r _ _ e),λb o u e=>a _ _ (r _ _ e),λb q e=>a _ _ (r _ _ e)⟩
  have hok:mU X.prog X.w Y (f.push D):=λb u e=>by
   by_cases i:b=f.objs.size
   ·subst i;have e:dj p f.objs.size (.qy D yY) f.objs.size=some u:=e;rw[aK]at e;cases e;exact EO (cU _ rfl)
   ·have e:dj p f.objs.size (.qy D yY) b=some u:=e;rw[aZ i]at e;by_cases j:b=g
    ·subst j;have e:dj H b m b=some u:=e;rw[aK]at e;cases e;exact EO (bA _ hoc)
    ·have e:dj H g m b=some u:=e;rw[aZ j]at e;by_cases Z:b=T
     ·subst Z;rw[B]at e;cases e;refine⟨_,bA _ N,?_,λpos cv z=>?_⟩
      ·simpa using TriplesOk_snoc lp.line lp.col (.ref g) ps.toList k
      ·rcases vZ ps.toList k (by simpa using z)with z | z
       ·obtain⟨cc,oc',uc,yZ,t',q1,q2,q3⟩:=T7 pos cv z;exact⟨cc,oc',uc,yZ,t',q1,a _ _ (r _ _ q2),q3⟩
       ·exact⟨g,L,yY,vs,t,z,a _ _ (by show dj H g m g=_;exact aK),hd,hv⟩
     ·refine(I.hok b u e).yH (λd v A2 q=>keep d v ?_ q) (λd q=>a _ _ (r _ _ q)) (λd xs q=>a _ _ (r _ _ q)) λd ob' v q=>a _ _ (r _ _ q)
      rcases A2 with rfl | A2
      ·exact Z
      ·rintro rfl
       rw[B]at A2;cases A2
  refine⟨.ref f.objs.size,Y,I.un un hok,rfl,h _ _ R (r.trans a) (λb o e=>?_) ?_⟩
  ·by_cases i:b=f.objs.size
   ·rw[i];exact .inr R
   ·have e:dj p f.objs.size (.qy D yY) b=some o:=e;rw[aZ i]at e;by_cases j:b=g
    ·rw[j];exact .inr l
    ·have e:dj H g m b=some o:=e;rw[aZ j]at e;exact .inl e
  ·exact⟨_,_,_,_,_,g,L,yY,vs,t,(aK),rfl,rfl,a _ _ (aK),hd,hv⟩
end
def aaC{K:W.Frag}{st:Stmt}(M:Ei K x qual st f fd)(S:dP N ps (ay st))
  (hr:dW (k+1) A) (i:Env0 P w K j base A c s H) (R:BindsTo s fd args (ps.zip us)) (r:Vals vs us) (T:vs.length=ps.length)
  (hbody:∀d:Value,∃t,PSs (fV CX P w K j base N qual (ay st) f d A c s H E) (dD st) t/\t {nx:=λ_ H'=>Q .cf H',rt:=Q} (start N vs) H) :
  codeAny (model P w) A (.call (.ref f) args) (CR CX c P w H s Q E) s:=by
 obtain⟨oc,od,kV,X,pm,an,d,ct,AM,rfl,Y,Z⟩:=M.ex;have g:∀b o,base.get? b=some o->s.heap.get? b=some o:=λb o e=>(i.bs b o e).1
 have C:=i.mod.kin.keeps g;have l:∀y∈ps.zip us,(ay st).names.lookup y.1=some .local\/((ay st).names.lookup y.1=some .cell/\((cellsFrom (s.heap.objs.size+1) (ay st).names []).lookup y.1).isSome=true):=λy hy=>by
  rcases S.par y.1 (yz hy).1 with q | q
  ·exact .inl q
  ·exact .inr ⟨q,W.cellsFrom_some _ _ _ (.inl q)⟩
 refine codeAny_call_function hr.depth (C _ _ Y) rfl S.co S.gen rfl (W.codeRec_of C Z) (R _ _ _ _ (K2 S.kind l λenv he D L=>?_))
 subst he;refine⟨(i.mod.nolimit.keeps g).keeps L.toInCall.keep,codeAny_func ?_⟩;obtain⟨t,ht,hq⟩:=hbody d;have I:Inv (fV CX P w K j base N qual (ay st) f d A c s H E) [] (start N vs) H D:=wZ S hr.hd i T r L;refine kM (ht [] D (start N vs) H _ I hq) (λfl m a=>?_) λe m a=>a
 have fin:∀{p:St} {H':Hp} {v:V} {u:Value},Inv (fV CX P w K j base N qual (ay st) f d A c s H E) [] p H' m->RelV v u->Q v H'->CE c P w H s Q u m:=λ{_ H' v _} J B q=>⟨v,H',J.os,J.bare,J.base,J.hok,B,q⟩
 cases fl with
 | ret u=>obtain⟨v,p,H',J,B,q⟩:=a;exact fin J B q
 | next=>obtain⟨p,H',J,q⟩:=a;exact fin (v:=V.cf) J rfl q
 | brk=>obtain⟨_,_,_,q⟩:=a;exact False.elim q
 | cont=>obtain⟨_,_,_,q⟩:=a;exact False.elim q
end L2
namespace L2.U
open PySem PySem.Spec PyProof.Rows
def nw{b:Sort u}(a:b):∃x,x=a:=⟨_,rfl⟩
noncomputable abbrev PV.lst (ps:List PV):PV:=.nd .lst ps
structure Gr (F F':Fz):Prop where
 s:cX F.F F'.F
 m:∀(n:Nat) (a:Addr),F.μ[n]?=some a->F'.μ[n]?=some a
def Gr.refl(F:Fz):Gr F F:=⟨cX.refl _,λ_ _ h=>h⟩
def Gr.trans(a:Gr F F1)(b:Gr F1 F2):Gr F F2:=⟨a.s.trans b.s,λn c h=>b.m n c (a.m n c h)⟩
def bQ{K:W.Frag}(e:cX H H')(h:jx K H a xs):jx K H' a xs:=by
 rcases h with(h | ⟨o,h⟩) | h
 ·exact .inl (.inl (e _ _ h))
 ·exact .inl (.inr ⟨o,e _ _ h⟩)
 ·exact .inr h
def Rb(e:cX H H')(h:Rd H a u):Rd H' a u:=h.imp (e _ _) (by rintro⟨o,q⟩;exact⟨o,e _ _ q⟩)
def Bu{K:W.Frag}(e:cX H H')(h:lF K H a xs):lF K H' a xs:=h.imp (Rb e) id
def _root_.L2.lF.of{K:W.Frag}(h:H a=some (.lst xs)):lF K H a xs:=.inl (.inl h)
section
variable {K:W.Frag} {F F':Fz}
def q9.to(h:q9 K G H a x k vs)(g:cX G l)(e:∀o,H a=some o->H' a=some o)(m:y=true->x=true):q9 K l H' a y k vs:=by
 have d:∀{f:List (List bO×Addr×Value)},gT K G f->gT K l f:=λhk z p=>bQ g (hk z p)
 match k,h with
 | .aq,⟨c,b⟩ =>
  refine⟨?_,?_⟩
  ·grind
  ·rcases b with(b | ⟨o,b⟩) | b
   ·exact .inl (.inl (e _ b))
   ·exact .inl (.inr ⟨o,e _ b⟩)
   ·exact .inr b
 | .lst,h =>
  cases y with
  | true=>rw[m rfl]at h;exact e _ h
  | false =>
   cases x with
   | true=>exact lF.of (e _ h)
   | false =>
    rcases(h)with(h | ⟨o,h⟩) | h
    ·exact .inl (.inl (e _ h))
    ·exact .inl (.inr ⟨o,e _ h⟩)
    ·exact .inr h
 | .kP C ns,⟨q,r,fs,c,b,i,t,u⟩=>exact⟨q,r,fs,c,b,i,e _ t,u⟩
 | .gU false ks,⟨j,c,b⟩=>exact⟨j,e _ c,b⟩
 | .gU true ks,⟨f,c,b,i⟩=>exact⟨f,e _ c,d b,i⟩
mutual
theorem b6.mono(e:Gr F F'):∀{p:PV} {v:V},b6 K F p v->b6 K F' p v
 | .cf,_,h=>by simpa only[b6]using h
 | .bl _,_,h=>by simpa only[b6]using h
 | .int _,_,h=>by simpa only[b6]using h
 | .str _,_,h=>by simpa only[b6]using h
 | .fn _,_,h=>by simpa only[b6]using h
 | .ref n,_,h=>by
  simp only[b6]at h ⊢;obtain⟨a,b,c⟩:=h;exact⟨a,e.m _ _ b,c⟩
 | .nd k ps,_,h=>by
  simp only[b6]at h ⊢;obtain⟨a,d,b,c,f⟩:=h;exact⟨a,d,b,c.to e.s (λo q=>e.s _ _ q) id,aI.mono e f⟩
theorem aI.mono(e:Gr F F'):∀{ps:List PV} {vs:List V},aI K F ps vs->aI K F' ps vs
 | [],_,h=>by simpa only[aI]using h
 | _::_,_,h=>by
  simp only[aI]at h ⊢;obtain⟨v,r,a,b,c⟩:=h;exact⟨v,r,a,b.mono e,aI.mono e c⟩
end
def aI.cD(h:aI K F (p::ps) vs):∃v r,vs=v::r/\b6 K F p v/\aI K F ps r:=by
 simpa only[aI]using h
def aI.c6(h:aI K F [] vs):vs=[]:=by simpa only[aI]using h
theorem uq:∀{ps:List PV} {vs:List V},aI K F ps vs↔Paired (b6 K F) ps vs
 | [],vs=>⟨λh=>by rw[h.c6];exact .nil,λh=>by cases h;exact .nil⟩
 | p::ps,vs=>⟨λh=>by obtain⟨v,r,rfl,a,b⟩:=h.cD;exact .cons a (uq.mp b),λh=>by cases h with | cons a b=>exact .cons a (uq.mpr b)⟩
def aI.length(h:aI K F ps vs):ps.length=vs.length:=pM (uq.mp h)
theorem aI.append:∀{ps a:List PV} {vs ws:List V},aI K F ps vs->aI K F a ws->aI K F (ps++a) (vs++ws)
 | [],_,_,_,h,t=>by rw[h.c6];exact t
 | _::_,_,_,_,h,t=>by
  obtain⟨v,r,rfl,b,c⟩:=h.cD;exact .cons b (c.append t)
theorem aI.get:∀{ps:List PV} {vs:List V} {i:Nat} {p:PV},aI K F ps vs->ps[i]?=some p->∃v,vs[i]?=some v/\b6 K F p v
 | [],_,_,_,_,e=>by cases e
 | _::_,_,0,_,h,e=>by
  obtain⟨v,r,rfl,a,_⟩:=h.cD;cases e;exact⟨v,rfl,a⟩
 | _::_,_,_+1,_,h,e=>by
  obtain⟨v,r,rfl,_,b⟩:=h.cD;exact b.get e
theorem aI.take:∀{ps:List PV} {vs:List V} (n:Nat),aI K F ps vs->aI K F (ps.take n) (vs.take n)
 | _,_,0,_=>by simp only[List.take_zero];exact .nil
 | [],_,_+1,h=>by rw[h.c6];simp only[List.take_nil];exact .nil
 | _::_,_,n+1,h=>by
  obtain⟨v,r,rfl,a,b⟩:=h.cD;exact .cons a (b.take n)
theorem aI.drop:∀{ps:List PV} {vs:List V} (n:Nat),aI K F ps vs->aI K F (ps.drop n) (vs.drop n)
 | _,_,0,h=>h
 | [],_,_+1,h=>by rw[h.c6];simp only[List.drop_nil];exact .nil
 | _::_,_,n+1,h=>by
  obtain⟨v,r,rfl,_,a⟩:=h.cD;exact a.drop n
theorem aI.set(r:b6 K F p v):∀{ps:List PV} {vs:List V} (i:Nat),aI K F ps vs->aI K F (ps.set i p) (vs.set i v)
 | [],_,_,h=>by rw[h.c6];exact .nil
 | _::_,_,0,h=>by
  obtain⟨v,b,rfl,_,a⟩:=h.cD;exact .cons r a
 | _::_,_,i+1,h=>by
  obtain⟨v,b,rfl,c,a⟩:=h.cD;exact .cons c (a.set r i)
theorem aI.reverse:∀{ps:List PV} {vs:List V},aI K F ps vs->aI K F ps.reverse vs.reverse
 | [],_,h=>by rw[h.c6];exact .nil
 | _::_,_,h=>by
  obtain⟨v,r,rfl,a,b⟩:=h.cD;rw[yo,yo];exact b.reverse.append (.cons a .nil)
def eA:b6 K F (.ref n) v↔∃a,F.μ[n]?=some a/\v=.ref a:=by simp only[b6]
def uu:b6 K F (.fn x) v↔∃a,v=.ref a/\W.nsIn K mainGlobals x=some (some (.ref a)):=by simp only[b6]
def gL:b6 K F (.lst ps) v↔∃a vs,v=.ref a/\lF K F.F a vs/\aI K F ps vs:=jT
end
structure aE where
 k:Kd
 ps:List PV
structure dB where
 ρ:List (Option PV)
 h:List aE
noncomputable def live(c:aE):Bool:=match c.k with | .aq=>false | _=>true
structure lI (K:W.Frag) (aa:Hp) (ab F:Fz) (h:List aE) (H:Hp):Prop where
 sub:cX F.F H
 keep:cX aa H
 base:Gr ab F
 fresh:∀a o,F.F a=some o->ab.F a=some o\/aa a=none
 new:∀(n:Nat) (a:Addr),F.μ[n]?=some a->aa a=none/\∃o,H a=some o
 hl:h.length=F.μ.length
 nd:F.μ.Nodup
 cell:∀(n:Nat) (c:aE) (a:Addr),h[n]?=some c->F.μ[n]?=some a->live c=true->F.F a=none/\∃vs,q9 K F.F H a true c.k vs/\aI K F c.ps vs
structure Lc (K:W.Frag) (F:Fz) (ρ:List (Option PV)) (σ:St):Prop where
 av:∀(i:Nat) (p:PV),ρ[i]?=some (some p)->∃v,σ[i]?=some (some v)/\b6 K F p v
 len:ρ.length=σ.length
structure Rep (K:W.Frag) (aa:Hp) (ab F:Fz) (st:dB) (σ:St) (H:Hp):Prop where
 c:lI K aa ab F st.h H
 l:Lc K F st.ρ σ
def gh(h:H p=none):cX H (dj H p o):=λb u q=>by rw[aZ (cV q h)];exact q
section
variable {K:W.Frag} {aa H H':Hp} {ab F F':Fz} {h:List aE} {st:dB} {σ:St}
def Lc.mono(L:Lc K F ρ σ)(e:Gr F F'):Lc K F' ρ σ:=⟨λi p z=>let ⟨v,a,b⟩:=L.av i p z;⟨v,a,b.mono e⟩,L.len⟩
def lI.after(R:lI K aa ab F h H)(e:cX H H')(f:cX F.F F'.F)(m:F'.μ=F.μ)(s:cX F'.F H')(n:∀a o,F'.F a=some o->F.F a=some o\/H a=none):lI K aa ab F' h H' where
 sub:=s
 keep:=R.keep.trans e
 base:=R.base.trans ⟨f,λ_ _ q=>by rw[m];exact q⟩
 fresh:=λa o q=>by
  rcases n a o q with z | z
  ·exact R.fresh a o z
  ·exact .inr (R.keep.free z)
 new:=λn a q=>by rw[m]at q;obtain⟨b,o,d⟩:=R.new n a q;exact⟨b,o,e _ _ d⟩
 hl:=by rw[m];exact R.hl
 nd:=by rw[m];exact R.nd
 cell:=λi c a hc g hk=>by
  rw[m]at g;obtain⟨b,j,d,k⟩:=R.cell i c a hc g hk;refine⟨?_,j,d.to f (λo q=>e _ _ q) id,k.mono ⟨f,λ_ _ q=>by rw[m];exact q⟩⟩
  obtain⟨_,o,ho⟩:=R.new i a g;cases q:F'.F a with
  | none=>rfl
  | some u =>
   rcases n a u q with z | z
   ·rw[b]at z;cases z
   ·rw[ho]at z;cases z
def Rep.after(R:Rep K aa ab F st σ H)(e:cX H H')(f:cX F.F F'.F)(m:F'.μ=F.μ)(s:cX F'.F H')(n:∀a o,F'.F a=some o->F.F a=some o\/H a=none):Rep K aa ab F' st σ H' :=
 ⟨R.c.after e f m s n,R.l.mono ⟨f,λ_ _ q=>by grind⟩⟩
def Rep.sub(R:Rep K aa ab F st σ H):cX F.F H:=R.c.sub
def Rep.laid(R:Rep K aa ab F st σ H)(o:HO)(hp:H p=none):Rep K aa ab ⟨dj F.F p o,F.μ⟩ st σ (dj H p o)/\Gr F ⟨dj F.F p o,F.μ⟩:=by
 have d:=R.sub.free hp;refine⟨R.after (gh hp) (gh d) rfl (λb u q=>?_) (λb u q=>?_),gh d,λ_ _ q=>q⟩
 ·by_cases a:b=p
  ·subst a;rw[show(Fz.mk (dj F.F b o) F.μ).F b=dj F.F b o b from rfl,aK]at q;rw[aK];exact q
  ·rw[show(Fz.mk (dj F.F p o) F.μ).F b=dj F.F p o b from rfl,aZ a]at q;rw[aZ a];exact R.sub _ _ q
 ·by_cases a:b=p
  ·grind
  ·rw[show(Fz.mk (dj F.F p o) F.μ).F b=dj F.F p o b from rfl,aZ a]at q;exact .inl q
def lI.alloc(R:lI K aa ab F h H)(hp:H p=none)(i:q9 K F.F (dj H p o) p true c.k vs)(f:aI K F c.ps vs) :
  lI K aa ab ⟨F.F,F.μ++[p]⟩ (h++[c]) (dj H p o)/\Gr F ⟨F.F,F.μ++[p]⟩/\(F.μ++[p])[h.length]?=some p:=by
 have g:Gr F ⟨F.F,F.μ++[p]⟩:=⟨cX.refl _,λn a q=>by
  grind⟩
 have e:∀n a,(F.μ++[p])[n]?=some a->F.μ[n]?=some a\/n=F.μ.length/\a=p:=λn a q=>by
  grind
 have r:∀n a,F.μ[n]?=some a->a≠p:=λn a q z=>by
  subst z;obtain⟨_,o,ho⟩:=R.new n a q;rw[hp]at ho;cases ho
 refine⟨⟨λb u q=>by rw[aZ (cV (R.sub _ _ q) hp)];exact R.sub _ _ q,R.keep.trans (gh hp),R.base.trans g,R.fresh,λn a q=>?_,by simp[R.hl],?_,λn d a hd j hk=>?_⟩,g,by rw[R.hl];simp⟩
 ·rcases e n a q with z | ⟨_,rfl⟩
  ·obtain⟨l,u,m⟩:=R.new n a z;exact⟨l,u,gh hp _ _ m⟩
  ·exact⟨R.keep.free hp,o,aK⟩
 ·rw[tq];refine⟨R.nd,by simp,λa j b f z=>?_⟩
  obtain⟨n,i⟩:=px.mp j;rw[aG]at f;exact r n a i (z.trans f)
 ·rcases e n a j with z | ⟨rfl,rfl⟩
  ·rw[jN (by rw[R.hl];exact(cS.mp z).1)]at hd
   obtain⟨l,ws,m,t⟩:=R.cell n d a hd z hk;exact⟨l,ws,m.to (cX.refl _) (λu q=>gh hp _ _ q) id,t.mono g⟩
  ·rw[<-R.hl,sO (au _),Nat.sub_self]at hd;cases hd;exact⟨R.sub.free hp,vs,i,f.mono g⟩
def lI.write(R:lI K aa ab F h H)(hc:h[n]?=some c)(r:live c=true)(f:F.μ[n]?=some a)(w:q9 K F.F (dj H a o) a true d.k vs)(g:aI K F d.ps vs) :
  lI K aa ab F (h.set n d) (dj H a o):=by
 obtain⟨hF,_⟩:=R.cell n c a hc f r;refine⟨λb u q=>by rw[aZ (λz=>by grind)];exact R.sub _ _ q,λb u q=>?_,R.base,R.fresh,λm b q=>?_,by rw[yA];exact R.hl,R.nd,λm e b he l hk=>?_⟩
 ·rw[aZ (λz=>by subst z;rw[(R.new n b f).1]at q;cases q)];exact R.keep _ _ q
 ·obtain⟨i,u,j⟩:=R.new m b q;refine⟨i,?_⟩;by_cases g:b=a
  ·subst g;exact⟨o,aK⟩
  ·exact⟨u,by rw[aZ g];exact j⟩
 ·by_cases p:n=m
  ·grind
  ·rw[pC p]at he;obtain⟨i,ws,j,t⟩:=R.cell m e b he l hk;have ne:b≠a:=λz=>by
    subst z;obtain⟨x,e1⟩:=cS.mp l;obtain⟨y,v⟩:=cS.mp f;exact p ((List.getElem_inj R.nd).mp (v.trans e1.symm))
   exact⟨i,ws,j.to (cX.refl _) (λu q=>by rw[aZ ne];exact q) id,t⟩
end
def _root_.L2.PE.imp(h:PE X e t)(b:∀a H Q,t' a H Q->t a H Q):PE X e t':=λc s a H Q I hw=>h c s a H Q I (b _ _ _ hw)
def _root_.L2.PT.imp(h:PT X e t)(b:∀a H Q,t' a H Q->t a H Q):PT X e t':=λc s a H Q I hw=>h c s a H Q I (b _ _ _ hw)
def _root_.L2.PW.imp(h:PW X e t)(b:∀a H Q,t' a H Q->t a H Q):PW X e t':=λw c s a H Q I hw=>h w c s a H Q I (b _ _ _ hw)
def _root_.L2.PA.imp(h:PA X e t)(b:∀a H Q,t' a H Q->t a H Q):PA X e t':=λpos c s a H Q I hw=>h pos c s a H Q I (b _ _ _ hw)
def _root_.L2.PS.imp{st:Stmt}(h:PS X st t)(b:∀D a H,t' D a H->t D a H):PS X st t':=λc s a H D I hw=>h c s a H D I (b _ _ _ hw)
def _root_.L2.PSs.imp{st:List Stmt}(h:PSs X st t)(b:∀D a H,t' D a H->t D a H):PSs X st t':=λc s a H D I hw=>h c s a H D I (b _ _ _ hw)
def _root_.L2.PG.imp(h:PG X e t)(b:∀v a H Q,t' v a H Q->t v a H Q):PG X e t':=λc s a H v u Q I r hw=>h c s a H v u Q I r (b _ _ _ _ hw)
def _root_.L2.PGs.imp(h:PGs X e t)(b:∀v a H Q,t' v a H Q->t v a H Q):PGs X e t':=λc s a H v u Q I r hw=>h c s a H v u Q I r (b _ _ _ _ hw)
def _root_.L2.PI.imp(h:PI X b e t)(c:∀a H Q,t' a H Q->t a H Q):PI X b e t':=λd s a H R I hw=>h d s a H R I (c _ _ _ hw)
inductive Rs (α:Type) where
 | ok (a:α) | ex (m:Bool) (C:Str)
abbrev Gx(a:Type):=dB->Option (Rs a×dB)
noncomputable def aaF{b c:Type}(k:b->Gx c):Rs b×dB->Option (Rs c×dB)
 | (.ok a,st)=>k a st
 | (.ex m C,st)=>some (.ex m C,st)
def bnd{a b:Type}(f:Gx a)(k:a->Gx b):Gx b:=λc=>(f c).bind (aaF k)
noncomputable def aV{b:Type}(a:b):Gx b:=λc=>some (.ok a,c)
noncomputable def hp{b:Type}(g:List aE->Option b):Gx b:=λc=>(g c.h).map λa=>(.ok a,c)
noncomputable def lV{b:Type}(o:Option b):Gx b:=λc=>o.map λa=>(.ok a,c)
def Dm(H H':Hp):Prop:=∀b o,H b=some o->∃a,H' b=some a
def jE(P:Program)(w:World):Ky:=λi H s E e c=>∃a d j B f,e=.ref a/\c.os=s.os/\AllBare c.gens/\Un (pW i) [] H f s.heap c.heap/\mU P w f c.heap/\Dm H f/\E d none f /\
 Heap.FlyingW B i a d j c.heap/\(∀b o,f b=some o->∃g,B.get? b=some g)/\∀b g,s.heap.get? b=some g->H b=none->b∉pW i->B.get? b=some g
def Bw:EB (jE P w) X E0:=(by rintro _ _ _ _ _ _ _ ⟨_,_,_,_,_,_,_,_,_,_,_,h,_⟩;exact h.elim)
def Me(X:Cx)(g:Hp)(i F:Fz)(C:Str)(st:dB):Bool->Prop
 | true=>∀c d j f s k a b p,Rep X.K g i c st d j->Gr F c->Inv X f d j s->ClsAt X.K C b->Heap.MadeExcOf s.heap k a b p->X.xe (.ref a) {s with heap:=k}
 | false=>∀d f l m e o,Inv X f d l m->jE X.prog X.w X.stack l m (λb _ q=>ClsAt X.K C b/\∃c,Rep X.K g i c st d q/\Gr F c) e o->X.xe e o
section
variable {X:Cx} {aa H:Hp} {ab F F1:Fz} {st bG:dB} {σ:St} {α β γ δ:Type}
def Me.mono(h:Me X aa ab F C st m)(s:Gr F F1):Me X aa ab F1 C st m:=by
 cases m with
 | true=>exact λd f g i j k a b l R z=>h d f g i j k a b l R (s.trans z)
 | false =>
  rintro f i H1 j e o I ⟨a,b,p,B,g,k,q,r,t,u,v,⟨c,d,R,z⟩,w⟩
  exact h f i H1 j e o I ⟨a,b,p,B,g,k,q,r,t,u,v,⟨c,d,R,s.trans z⟩,w⟩
def Mf(X:Cx)(aa:Hp)(ab F:Fz)(P:α->dB->Prop):Rs α×dB->Prop
 | (.ok a,st)=>P a st
 | (.ex m C,st)=>Me X aa ab F C st m
def At(X:Cx)(aa:Hp)(ab F:Fz)(st:dB)(f:Gx α)(P:α->dB->Prop):Prop:=∃r,f st=some r/\Mf X aa ab F P r
def Mf.imp(h:Mf X aa ab F P r)(g:Gr F F1)(i:∀a b,P a b->c a b):Mf X aa ab F1 c r:=by
 match r,h with
 | (.ok a,st),h=>exact i a st h
 | (.ex m C,st),h=>exact Me.mono h g
def At.imp(h:At X aa ab F st f P)(g:Gr F F1)(i:∀a b,P a b->c a b):At X aa ab F1 st f c :=
 let ⟨r,d,e⟩:=h;⟨r,d,e.imp g i⟩
def bt(h:o.bind f=some b):∃a,o=some a/\f a=some b:=by
 cases o with
 | none=>cases h
 | some a=>exact⟨a,rfl,h⟩
def bE(h:o.map f=some b):∃a,o=some a/\f a=b:=by
 simp_all
def At.bnd(h:At X aa ab F st (bnd f k) P):At X aa ab F st f (λa bG=>At X aa ab F bG (k a) P):=by
 obtain⟨r,d,c⟩:=h;obtain⟨q,e1,b⟩:=bt d;refine⟨q,e1,?_⟩
 match q,b with
 | (.ok a,s1),b=>exact⟨r,b,c⟩
 | (.ex m C,s1),b=>cases b;exact c
def At.aV(h:At X aa ab F st (aV a) P):P a st:=by
 obtain⟨r,b,c⟩:=h;cases b;exact c
def At.hp(h:At X aa ab F st (hp g) P):∃a,g st.h=some a/\P a st:=by
 obtain⟨r,b,c⟩:=h;obtain⟨a,e1,d⟩:=bE b;subst d;exact⟨a,e1,c⟩
def At.lV(h:At X aa ab F st (lV g) P):∃a,g=some a/\P a st:=by
 obtain⟨r,b,c⟩:=h;obtain⟨a,e1,d⟩:=bE b;subst d;exact⟨a,e1,c⟩
def Tx(X:Cx)(aa:Hp)(ab:Fz)(e:Fz->α->β->Prop)(F:Fz)(st:dB)(f:Gx α)(σ:St)(Q:β->Hp->Prop):Prop :=
 At X aa ab F st f λa g=>∀b d c,Rep X.K aa ab c g σ d->Gr F c->e c a b->Q b d
def tX(X:Cx)(aa:Hp)(ab:Fz)(a:Fz->α->β->Prop)(f:Gx α):St->Hp->(β->Hp->Prop)->Prop:=λσ H Q=>∃F st,Rep X.K aa ab F st σ H/\Tx X aa ab a F st f σ Q
def Tx.mono(h:Tx X aa ab c F st f σ Q)(g:Gr F F1)(i:∀b H',Q b H'->d b H'):Tx X aa ab c F1 st f σ d :=
 At.imp h g λa j q b H' e R s r=>i _ _ (q b H' e R (g.trans s) r)
def Tx.bnd(h:Tx X aa ab d F st (bnd f k) σ Q)
  (i:∀a b F1 bG c,Rep X.K aa ab F1 bG σ c->Gr F F1->g F1 a b->Tx X aa ab d F1 bG (k a) σ Q->j b c):Tx X aa ab g F st f σ j :=
 At.imp (At.bnd h) (Gr.refl F) λa bG q b c F1 l e m=>i a b F1 bG c l e m (Tx.mono (q) e λ_ _ z=>z)
def Tx.aV(h:Tx X aa ab c F st (aV a) σ Q):∀b H' F',Rep X.K aa ab F' st σ H'->Gr F F'->c F' a b->Q b H':=At.aV h
def Tx.hp(h:Tx X aa ab c F st (hp g) σ Q):∃a,g st.h=some a/\∀b H' F',Rep X.K aa ab F' st σ H'->Gr F F'->c F' a b->Q b H':=At.hp h
def Tx.lV(h:Tx X aa ab c F st (lV g) σ Q):∃a,g=some a/\∀b H' F',Rep X.K aa ab F' st σ H'->Gr F F'->c F' a b->Q b H':=At.lV h
end
abbrev rB:Fz->Bool->Bool->Prop:=λ_ a b=>a=b
abbrev tE(X:Cx)(a:Hp)(b:Fz)(f:Gx PV):TE:=tX X a b (b6 X.K) f
abbrev tT(X:Cx)(a:Hp)(b:Fz)(f:Gx Bool):TT:=tX X a b rB f
abbrev tA(X:Cx)(a:Hp)(b:Fz)(f:Gx (List PV)):TA:=tX X a b (aI X.K) f
section
variable {X:Cx} {aa:Hp} {ab:Fz} {a b c e:Expr} {es rest:List Expr} {fa fb fc:Gx PV} {ga gb:Gx Bool} {ts:Gx (List PV)} {pos:Pos}
noncomputable def rd(i:Nat):Gx PV:=λd=>(d.ρ[i]?).join.map λp=>(.ok p,d)
def T9(i:Nat)(h:PE X (.Name x pos) (Pf i)):PE X (.Name x pos) (tE X aa ab (rd i)):=h.imp <| by
 rintro σ H Q ⟨F,st,R,r,d,f⟩
 obtain⟨p,e1,g⟩:=bE d;subst g;cases z:st.ρ[i]? with
 | none=>rw[z]at e1;cases e1
 | some o =>
  rw[z]at e1;cases o with
  | none=>cases e1
  | some m =>
   cases e1;obtain⟨v,j,k⟩:=R.l.av i p z;exact⟨v,j,f v H F R (Gr.refl F) k⟩
def Bx(h:PE X e (tC v))(d:∀F,b6 X.K F p v):PE X e (tE X aa ab (aV p)):=h.imp (by rintro σ H Q ⟨F,st,R,q⟩;exact q.aV v H F R (Gr.refl F) (d F))
def aaG{j pos}:PE X (.Constant (.int i) j pos) (tE X aa ab (aV (.int i))):=Bx VA λ_=>aN.mpr rfl
def afd{j pos}:PE X (.Constant (.bool i) j pos) (tE X aa ab (aV (.bl i))):=Bx ZT λ_=>cx.mpr rfl
def aaH{j pos}:PE X (.Constant .none j pos) (tE X aa ab (aV .cf)):=Bx VB λ_=>dQ.mpr rfl
def aaI{j pos}:PE X (.Constant (.str i) j pos) (tE X aa ab (aV (.str i))):=Bx VC λ_=>di.mpr rfl
abbrev G2:=List aE->PV->PV->Option PV
def rT(K:W.Frag)(g:G2):R2:=λx y H Q=>∃aa ab F d i j k p,g d.h j k=some p/\Rep K aa ab F d i H/\b6 K F j x/\b6 K F k y/\∀v l f,Rep K aa ab f d i l->Gr F f->b6 K f p v->Q v l
abbrev y0(X:Cx)(f:Value->Value->Sem Value)(g:G2):Prop:=OpR X f (rT X.K g)
def op2(g:G2)(fa fb:Gx PV):Gx PV:=bnd fa λx=>bnd fb λy=>hp λh=>g h x y
def rY(h:tE X aa ab (op2 g fa fb) σ H Q):Zc (rT X.K g) (tE X aa ab fa) (tE X aa ab fb) σ H Q:=by
 obtain⟨F,f,R,h⟩:=h;refine⟨F,f,R,h.bnd λp v F1 i t j u k l=>⟨F1,i,j,l.bnd λq w F2 d x R2 m b2 r=>?_⟩⟩
 obtain⟨o,e,z⟩:=r.hp;exact⟨aa,ab,F2,d,σ,p,q,o,e,R2,k.mono m,b2,z⟩
def afe(ho:y0 X (binaryOp op) g)(d:PE X a (tE X aa ab fa))(f:PE X b (tE X aa ab fb)):PE X (.BinOp a op b pos) (tE X aa ab (op2 g fa fb)):=(Z3 ho d f).imp λ_ _ _ h=>rY h
def aaJ(ho:y0 X (compareOp op) g)(d:PE X a (tE X aa ab fa))(f:PE X b (tE X aa ab fb))(i:behindInMarks op b=false):PE X (.Compare a [op] [b] pos) (tE X aa ab (op2 g fa fb)):=(Pz ho d f i).imp λ_ _ _ h=>rY h
def xc:PV->Option Bool | .bl b=>some b | _=>none
def uv{b:Bool}(h:xc p=some b):p=.bl b:=by
 cases p<;>first | (cases h;rfl) | cases h
def toB(f:Gx PV):Gx Bool:=bnd f λp=>lV (xc p)
def toB_imp(h:tT X aa ab (toB fa) σ H Q):tE X aa ab fa σ H λv d=>∃k,v=.bl k/\Q k d:=by
 obtain⟨F,g,R,h⟩:=h;refine⟨F,g,R,h.bnd λp v F1 l d i m f j=>?_⟩
 obtain⟨k,e,z⟩:=j.lV;rw[uv e]at f;exact⟨k,cx.mp f,z k d F1 i (Gr.refl _) rfl⟩
def aaK(ho:y0 X (compareOp op) g)(d:PE X a (tE X aa ab fa))(f:PE X b (tE X aa ab fb))(i:behindInMarks op b=false):PT X (.Compare a [op] [b] pos) (tT X aa ab (toB (op2 g fa fb))) :=
 (PC ho d f i).imp λ_ _ _ h=>rY (toB_imp h)
def chain(g d:G2)(fa fb fc:Gx PV):Gx PV:=bnd fa λx=>bnd fb λy=>bnd (hp λh=>(g h x y).bind xc) λk=>if k=true then bnd fc λz=>hp λh=>d h y z else aV (.bl false)
def xf(h:tE X aa ab (chain g i fa fb fc) σ H Q):Et (rT X.K g) (rT X.K i) (tE X aa ab fa) (tE X aa ab fb) (tE X aa ab fc) σ H Q:=by
 obtain⟨F,m,R,h⟩:=h;refine⟨F,m,R,h.bnd λp v F1 r H1 x g1 B C=>⟨F1,r,x,C.bnd λq w F2 d H2 R2 D b2 E=>?_⟩⟩
 obtain⟨k,e,z⟩:=At.hp (At.bnd E);obtain⟨o,e1,I⟩:=bt e;rw[uv I]at e1;refine⟨aa,ab,F2,d,σ,p,q,_,e1,R2,B.mono D,b2,λu J j l f L=>⟨k,cx.mp L,?_⟩⟩
 cases k with
 | true =>
  have z:Tx X aa ab (b6 X.K) F2 d (bnd fc λz=>hp λh=>i h q z) σ Q:=z
  refine⟨j,d,l,(z.mono f λ_ _ y=>y).bnd λt o M N H4 T Y Z h4=>?_⟩
  obtain⟨o,e,z⟩:=h4.hp;exact⟨aa,ab,M,N,σ,q,t,o,e,T,b2.mono (f.trans Y),Z,z⟩
 | false=>exact Tx.aV z _ J j l f (cx.mpr rfl)
def Rc(ho:y0 X (compareOp op) g)(f:y0 X (compareOp d) i)(j:PE X a (tE X aa ab fa))(k:PE X b (tE X aa ab fb))(hc:PE X c (tE X aa ab fc))
  (l:lastMarks [op,d] [b,c]=false):PE X (.Compare a [op,d] [b,c] pos) (tE X aa ab (chain g i fa fb fc)):=(LH ho f j k hc l).imp λ_ _ _ h=>xf h
end
def cO(h:List aE):PV->Option (Kd×List PV)
 | .nd k ps=>some (k,ps)
 | .ref n=>(h[n]?).bind λc=>if live c=true then some (c.k,c.ps)else none
 | _=>none
def bP{a:Type}{c:Prop} [Decidable c] {x:Option a} {y:a} (h:(if c then x else none)=some y):c/\x=some y:=by
 grind
def aU{a:Type}{c:Prop} [Decidable c] {x y:a} (h:(if c then some x else none)=some y):c/\x=y:=by
 grind
section
variable {K:W.Frag} {aa H:Hp} {ab F:Fz} {st:dB} {σ:St}
def Rep.at(R:Rep K aa ab F st σ H){p:PV}{k:Kd}{ps:List PV}{v:V}(e:cO st.h p=some (k,ps))(b:b6 K F p v):∃a vs,v=.ref a/\q9 K F.F H a false k vs/\aI K F ps vs:=by
 cases p with
 | nd t u =>
  cases e;obtain⟨a,vs,d,f,g⟩:=jT.mp b;exact⟨a,vs,d,f.to (cX.refl _) (λo q=>R.sub _ _ q) id,g⟩
 | ref n =>
  obtain⟨c,e1,i⟩:=bt e;obtain⟨j,m⟩:=aU i;cases m;obtain⟨a,d,f⟩:=eA.mp b;obtain⟨_,vs,g,r⟩:=R.c.cell n c a e1 d j;exact⟨a,vs,f,g.to (cX.refl _) (λo q=>q) (λz=>by cases z),r⟩
 | _=>cases e
def ES(h:List aE)(p:PV):Option (List PV):=match cO h p with
 | some (.aq,ps)=>some ps
 | some (.lst,ps)=>some ps
 | _=>none
def Rep.seq(R:Rep K aa ab F st σ H){p:PV}{ps:List PV}{v:V}(e:ES st.h p=some ps)(b:b6 K F p v):∃a vs,v=.ref a/\(jx K H a vs\/lF K H a vs)/\aI K F ps vs:=by
 unfold ES at e;split at e
 ·rename_i z;cases e;obtain⟨a,vs,d,f,g⟩:=R.at z b;exact⟨a,vs,d,.inl f.2,g⟩
 ·rename_i z;cases e;obtain⟨a,vs,d,f,g⟩:=R.at z b;exact⟨a,vs,d,.inr f,g⟩
 ·cases e
def rA(h:List aE):PV->Option Bool
 | .cf=>some false
 | .bl b=>some b
 | .int i=>some (i != 0)
 | p=>match cO h p with
  | some (.aq,ps)=>some !ps.isEmpty
  | some (.lst,ps)=>some !ps.isEmpty
  | some (.gU false _,ps)=>some !ps.isEmpty
  | _=>none
def uw{ps:List PV}{vs:List V}(h:aI K F ps vs):ps.isEmpty=vs.isEmpty:=by
 cases ps with
 | nil=>rw[h.c6];rfl
 | cons p ps=>obtain⟨v,r,rfl,_,_⟩:=h.cD;rfl
def Rep.tru(R:Rep K aa ab F st σ H){p:PV}{k:Bool}{v:V}(e:rA st.h p=some k)(b:b6 K F p v):PD K v H k:=by
 have more:(match cO st.h p with
  | some (.aq,ps)=>some !ps.isEmpty
  | some (.lst,ps)=>some !ps.isEmpty
  | some (.gU false _,ps)=>some !ps.isEmpty
  | _=>none)=some k->PD K v H k:=λe=>by
  split at e
  ·rename_i z;cases e;obtain⟨a,g,rfl,d,f⟩:=R.at z b;exact .inr (.inl ⟨g,d.2,by rw[uw f]⟩)
  ·rename_i z;cases e;obtain⟨a,g,rfl,d,f⟩:=R.at z b;exact .inl ⟨g,lF.sq d,by rw[uw f]⟩
  ·rename_i z;cases e;obtain⟨a,g,rfl,⟨j,d,_,m⟩,f⟩:=R.at z b;refine .inr (.inr ⟨j,d,?_⟩);rw[uw f,<-m,List.isEmpty_map]
  ·cases e
 cases p with
 | cf=>rw[dQ.mp b];exact(cL e).symm
 | bl c=>rw[cx.mp b];exact(cL e).symm
 | int i=>rw[aN.mp b];exact(cL e).symm
 | str x=>exact more e
 | ref n=>exact more e
 | fn x=>exact more e
 | nd k ps=>exact more e
end
section
variable {X:Cx} {aa:Hp} {ab:Fz} {a b c e:Expr} {es rest:List Expr} {fa fb fc:Gx PV} {ga gb:Gx Bool} {ts:Gx (List PV)} {pos:Pos}
def eH(f:Gx PV):Gx Bool:=bnd f λp=>hp λh=>rA h p
def aaL(h:PE X e (tE X aa ab fa))(he:∀d,isTrue e X.env d=(do let v <-d;standAt e.pos;holding [v] (truthy v))):PT X e (tT X aa ab (eH fa)) :=
 (LM h he).imp λσ H Q ⟨F,st,R,h⟩=>⟨F,st,R,h.bnd λp v F1 l g f m i j=>by
  obtain⟨k,e,z⟩:=j.hp;exact⟨k,f.tru e i,z k g F1 f (Gr.refl _) rfl⟩⟩
def Rf{d f:CmpOp}{g i:G2}(ho:y0 X (compareOp d) g)(j:y0 X (compareOp f) i)(k:PE X a (tE X aa ab fa))(l:PE X b (tE X aa ab fb))(hc:PE X c (tE X aa ab fc))
  (m:lastMarks [d,f] [b,c]=false):PT X (.Compare a [d,f] [b,c] pos) (tT X aa ab (toB (chain g i fa fb fc))):=(LI ho j k l hc m).imp λ_ _ _ h=>xf (toB_imp h)
def dk{d:Type}(i:Gx Bool)(f g:Gx d):Gx d:=bnd i λx=>if x=true then f else g
def za{k l:Type}{i:Fz->k->l->Prop}{f g:Gx k}{d:St}{H:Hp}{Q:l->Hp->Prop}(h:tX X aa ab i (dk ga f g) d H Q):tT X aa ab ga d H λc j=>if c=true then tX X aa ab i f d j Q else tX X aa ab i g d j Q:=by
 obtain⟨F,q,R,h⟩:=h;refine⟨F,q,R,h.bnd λx y F1 m j o t r p=>?_⟩
 cases r;cases x with
 | true=>exact⟨F1,m,o,p⟩
 | false=>exact⟨F1,m,o,p⟩
def zb{f d:Type}{g:Fz->f->d->Prop}{a:f}{b:d}{i:St}{H:Hp}{Q:d->Hp->Prop}(h:tX X aa ab g (aV a) i H Q)(j:∀F,g F a b):Q b H:=by
 obtain⟨F,k,R,h⟩:=h;exact h.aV b H F R (Gr.refl _) (j F)
def By{P d Q f:Prop}{c:Bool}(h:if c=true then P else Q)(h1:P->d)(g:Q->f):if c=true then d else f:=by
 grind
def GX{d g:Type}{j:Fz->d->g->Prop}{f:Gx d}{k:St}{H:Hp}{Q l:g->Hp->Prop}(h:tX X aa ab j f k H Q)(i:∀b H',Q b H'->l b H'):tX X aa ab j f k H l:=let ⟨F,st,R,h⟩:=h;⟨F,st,R,h.mono (Gr.refl _) i⟩
def aaM(d:PT X a (tT X aa ab ga))(f:PW X (.BoolOp .And (b::rest) pos) (tT X aa ab gb)):PW X (.BoolOp .And (a::b::rest) pos) (tT X aa ab (dk ga gb (aV false))) :=
 (VE d f).imp λg H Q h=>GX (za h) λ_ _ z=>By z id λz=>zb z λ_=>rfl
def aff(d:PT X a (tT X aa ab ga))(f:PW X (.BoolOp .Or (b::rest) pos) (tT X aa ab gb)):PW X (.BoolOp .Or (a::b::rest) pos) (tT X aa ab (dk ga (aV true) gb)) :=
 (ZU d f).imp λg H Q h=>GX (za h) λ_ _ z=>By z (λz=>zb z λ_=>rfl) id
def nY(f:Gx Bool):Gx Bool:=bnd f λx=>aV !x
def aaN(d:PT X a (tT X aa ab ga)):PT X (.UnaryOp .Not a pos) (tT X aa ab (nY ga)):=(VF d).imp λσ H Q ⟨F,st,R,h⟩=>⟨F,st,R,h.bnd λx y F1 k f g l i j=>by
 cases i;exact j.aV _ f F1 g (Gr.refl _) rfl⟩
def IZ(fa fb:Gx PV):Gx PV:=bnd fa λx=>bnd (hp λh=>rA h x) λk=>if k=true then fb else aV x
def orG(fa fb:Gx PV):Gx PV:=bnd fa λx=>bnd (hp λh=>rA h x) λk=>if k=true then aV x else fb
def Mg{f g:PV->Gx PV}{m:List (Addr×Obj)}{s:Shared}{d:St}{H:Hp}{Q:VK}(u:PE X a (tE X aa ab fa))(I:Inv X m d H s)
  (h:tE X aa ab (bnd fa λx=>bnd (hp λh=>rA h x) λk=>if k=true then f x else g x) d H Q) :
  wpAny (model X.prog X.w) X.A (eval a X.env) (λv s1=>wpAny (model X.prog X.w) X.A (truthy v) (λk s2=>∃p l F1 i j,Inv X m d j s2/\RelV l v/\Rep X.K aa ab F1 i d j/\b6 X.K F1 p l/\Tx X aa ab (b6 X.K) F1 i (if k=true then f p else g p) d Q) X.xe s1) X.xe s:=by
 obtain⟨F,y,R,h⟩:=h;refine thn (u m s d H (λv j=>∃F1 i p,Rep X.K aa ab F1 i d j/\b6 X.K F1 p v/\Tx X aa ab (b6 X.K) F1 i (bnd (hp λh=>rA h p) λk=>if k=true then f p else g p) d Q) I
  ⟨F,y,R,h.bnd λp v F1 i j o N q r=>⟨F1,i,p,o,q,r⟩⟩) λv s1 ⟨l,j,B,t,F1,i,p,o,q,r⟩=>?_
 obtain⟨k,e,z⟩:=At.hp (At.bnd r);exact thn (LJ m s1 d j l v (λC D=>C=k/\D=j) B t ⟨k,o.tru e q,rfl,rfl⟩) <| by
  rintro c s2 ⟨E,J,L,M⟩
  subst L M;exact⟨p,l,F1,i,E,J,t,o,q,z⟩
def afg(g:PE X a (tE X aa ab fa))(i:PE X (.BoolOp .Or (b::rest) pos) (tE X aa ab fb)):PE X (.BoolOp .Or (a::b::rest) pos) (tE X aa ab (orG fa fb)):=λj s l H Q I h =>
 BoolOp_or (thn (Mg g I h) λv t z=>thn z <| by
  rintro k s2 ⟨p,m,F1,o,H1,d,q,f,r,z⟩
  cases k with
  | true=>exact⟨m,H1,d,q,Tx.aV (z) _ H1 F1 f (Gr.refl _) r⟩
  | false=>exact i j s2 l H1 Q d ⟨F1,o,f,z⟩)
def aaO(g:PE X a (tE X aa ab fa))(i:PE X (.BoolOp .And (b::rest) pos) (tE X aa ab fb)):PE X (.BoolOp .And (a::b::rest) pos) (tE X aa ab (IZ fa fb)):=λj s l H Q I h =>
 BoolOp_and (thn (Mg g I h) λv t z=>thn z <| by
  rintro k s2 ⟨p,m,F1,o,H1,d,q,f,r,z⟩
  cases k with
  | false=>exact⟨m,H1,d,q,Tx.aV (z) _ H1 F1 f (Gr.refl _) r⟩
  | true=>exact i j s2 l H1 Q d ⟨F1,o,f,z⟩)
def Wx(fa:Gx PV):Gx PV:=bnd (toB fa) λx=>aV (.bl !x)
def aaP(d:PE X a (tE X aa ab fa)):PE X (.UnaryOp .Not a pos) (tE X aa ab (Wx fa)):=(VG d).imp λσ H Q ⟨F,st,R,h⟩ =>
 toB_imp ⟨F,st,R,h.bnd λx y F1 k f g l i j=>by
  cases i;exact j.aV _ f F1 g (Gr.refl _) (cx.mpr rfl)⟩
def afh(hc:PT X c (tT X aa ab ga))(d:PE X a (tE X aa ab fa))(f:PE X b (tE X aa ab fb)):PE X (.IfExp c a b pos) (tE X aa ab (dk ga fa fb)):=(Lr hc d f).imp λ_ _ _ h=>za h
def aj(f:Gx PV)(g:Gx (List PV)):Gx (List PV):=bnd f λx=>bnd g λd=>aV (x::d)
def aaQ:PA X [] (tA X aa ab (aV [])):=ue.imp λd H Q h=>zb h λ_=>.nil
def Wy(d:PE X e (tE X aa ab fa))(hr:PA X es (tA X aa ab ts))(f:starEach (e::es) X.env=(false,eval e X.env)::starEach es X.env:=by rfl):PA X (e::es) (tA X aa ab (aj fa ts)) :=
 (jX d hr f).imp (by rintro σ H Q ⟨F,st,R,h⟩;exact⟨F,st,R,h.bnd λp v F1 g r i t j k=>⟨F1,g,i,k.bnd λps u F2 l m R2 o b2 q=>q.aV _ m F2 R2 (Gr.refl _) (.cons (j.mono o) b2)⟩⟩)
noncomputable def gF:Nat:=4000000
def gi{n:Nat}(h:n<=gF):n<=sizeLine:=bC h (by decide)
def small(ps:List PV)(p:PV):Option PV:=if ps.length<=gF then some p else none
def kU(k:Kd)(ts:Gx (List PV)):Gx PV:=bnd ts λps=>lV (small ps (.nd k ps))
def aaR{i}(h:PA X es (tA X aa ab ts)):PE X (.Tuple es i pos) (tE X aa ab (kU .aq ts)):=(V7 h).imp λσ H Q ⟨F,st,R,h⟩=>⟨F,st,R,h.bnd λps d F1 o q j r f k=>by
 obtain⟨p,e,z⟩:=k.lV;obtain⟨l,rfl⟩:=aU e;refine⟨gi (by rw[<-f.length];exact l),λa m=>?_⟩
 obtain⟨R2,g⟩:=j.laid (.aq d) m;exact z _ _ _ R2 g (c5.mpr ⟨a,d,rfl,jx.of aK,f.mono g⟩)⟩
def aaS(h:PA X es (tA X aa ab ts)):PE X (.List es pos) (tE X aa ab (kU .lst ts)):=(LO h).imp λσ H Q ⟨F,st,R,h⟩=>⟨F,st,R,h.bnd λps d F1 m o i q f j=>by
 obtain⟨p,e,z⟩:=j.lV;obtain⟨k,rfl⟩:=aU e;refine⟨gi (by rw[<-f.length];exact k),λa l=>?_⟩
 obtain⟨R2,g⟩:=i.laid (.lst d) l;exact z _ _ _ R2 g (gL.mpr ⟨a,d,rfl,lF.of aK,f.mono g⟩)⟩
noncomputable def mZ(c:aE):Gx PV:=λd=>some (.ok (.ref d.h.length),⟨d.ρ,d.h++[c]⟩)
def Tx.mZ{c:aE}{F:Fz}{st:dB}{d:St}{H:Hp}{Q:VK}{p:Addr}{o:HO}{vs:List V}(h:Tx X aa ab (b6 X.K) F st (mZ c) d Q)(R:Rep X.K aa ab F st d H)(hp:H p=none)
  (f:q9 X.K F.F (dj H p o) p true c.k vs) (i:aI X.K F c.ps vs):Q (.ref p) (dj H p o):=by
 obtain⟨r,j,m⟩:=h;cases j;obtain⟨C,g,q⟩:=R.c.alloc hp f i;exact m _ _ _ ⟨C,R.l.mono g⟩ g (eA.mpr ⟨p,q,rfl⟩)
def zc(ts:Gx (List PV)):Gx PV:=bnd ts λps=>bnd (lV (small ps .cf)) λ_=>mZ ⟨.lst,ps⟩
def Wz(h:PA X es (tA X aa ab ts)):PE X (.List es pos) (tE X aa ab (zc ts)):=(LO h).imp λσ H Q ⟨F,st,R,h⟩=>⟨F,st,R,h.bnd λps k F1 l m f o d g=>by
 obtain⟨p,e,z⟩:=At.lV (At.bnd g);obtain⟨i,rfl⟩:=aU e;exact⟨gi (by rw[<-d.length];exact i),λa j=>Tx.mZ z f j aK d⟩⟩
end
inductive fD where
 | nx | bk | ct | rt (p:PV)
def Bz(X:Cx)(d:Hp)(e F:Fz)(D:Eo):fD->dB->Prop
 | .nx,st=>∀a c b,Rep X.K d e a st c b->Gr F a->D.nx c b
 | .bk,st=>∀a c b,Rep X.K d e a st c b->Gr F a->D.bk c b
 | .ct,st=>∀a c b,Rep X.K d e a st c b->Gr F a->D.ct c b
 | .rt p,st=>∀v a b,lI X.K d e a st.h b->Gr F a->b6 X.K a p v->D.rt v b
def Sa(X:Cx)(a:Hp)(b F:Fz)(D:Eo)(st:dB)(f:Gx fD):Prop:=At X a b F st f (Bz X a b F D)
def tS(X:Cx)(a:Hp)(b:Fz)(f:Gx fD):TS:=λD d H=>∃F c,Rep X.K a b F c d H/\Sa X a b F D c f
section
variable {X:Cx} {aa:Hp} {ab F F1:Fz} {D:Eo} {st:dB} {α β:Type}
theorem Bz.mono(g:Gr F F1):∀(o:fD) (st:dB),Bz X aa ab F D o st->Bz X aa ab F1 D o st
 | .nx,_,h=>λa c b R z=>h a c b R (g.trans z)
 | .bk,_,h=>λa c b R z=>h a c b R (g.trans z)
 | .ct,_,h=>λa c b R z=>h a c b R (g.trans z)
 | .rt _,_,h=>λv a b R z=>h v a b R (g.trans z)
def Sa.mono(h:Sa X aa ab F D st f)(g:Gr F F1):Sa X aa ab F1 D st f:=At.imp h g (Bz.mono g)
def Sa.bnd(h:Sa X aa ab F D st (bnd f k))
  (i:∀a b F1 c d,Rep X.K aa ab F1 c σ d->Gr F F1->g F1 a b->Sa X aa ab F1 D c (k a)->Q b d):Tx X aa ab g F st f σ Q :=
 At.imp (At.bnd h) (Gr.refl F) λa c q b d F1 j e l=>i a b F1 c d j e l (Sa.mono q e)
end
section
variable {X:Cx} {aa:Hp} {ab:Fz} {a b c e tg iter:Expr} {es:List Expr} {fe:Gx PV} {gc:Gx Bool} {pos:Pos} {s:Stmt} {ss body:List Stmt} {f g fb:Gx fD}
def onK(g:Gx fD):fD->Gx fD
 | .nx=>g
 | .bk=>aV .bk
 | .ct=>aV .ct
 | .rt p=>aV (.rt p)
def er(f g:Gx fD):Gx fD:=bnd f (onK g)
def WA:PSs X [] (tS X aa ab (aV .nx)):=Pk.imp (by rintro D σ H ⟨F,st,R,h⟩;exact At.aV h F σ H R (Gr.refl F))
def Rg(h1:PS X s (tS X aa ab f))(k:PSs X ss (tS X aa ab g)):PSs X (s::ss) (tS X aa ab (er f g)):=(Ls h1 k).imp λD σ H ⟨F,st,R,h⟩ =>
 ⟨F,st,R,At.imp (At.bnd h) (Gr.refl F) λo l q=>match o,q with
  | .nx,q=>λF1 t u m r=>⟨F1,l,m,Sa.mono q r⟩
  | .bk,q=>λd j i=>At.aV q d j i
  | .ct,q=>λd j i=>At.aV q d j i
  | .rt p,q=>λv d i=>At.aV q v d i⟩
def WB(h1:PS X s (tS X aa ab f)):PSs X [s] (tS X aa ab f):=Pl h1
def WC:PS X (.Pass pos) (tS X aa ab (aV .nx)):=Pm.imp (by rintro D σ H ⟨F,st,R,h⟩;exact At.aV h F σ H R (Gr.refl F))
def Rh:PS X (.Break pos) (tS X aa ab (aV .bk)):=Lu.imp (by rintro D σ H ⟨F,st,R,h⟩;exact At.aV h F σ H R (Gr.refl F))
def WD:PS X (.Continue pos) (tS X aa ab (aV .ct)):=Ba.imp (by rintro D σ H ⟨F,st,R,h⟩;exact At.aV h F σ H R (Gr.refl F))
def retS(fe:Gx PV):Gx fD:=bnd fe λp=>aV (.rt p)
def aaT(he:PE X e (tE X aa ab fe)):PS X (.Return (some e) pos) (tS X aa ab (retS fe)):=(VI he).imp (by rintro D σ H ⟨F,st,R,h⟩;exact⟨F,st,R,h.bnd λp v F1 l d i m j k=>At.aV k v F1 d i.c (Gr.refl _) j⟩)
def WE:PS X (.Return none pos) (tS X aa ab (aV (.rt .cf))):=Po.imp (by rintro D σ H ⟨F,st,R,h⟩;exact At.aV h _ F H R.c (Gr.refl _) (dQ.mpr rfl))
def afi(hc:PT X c (tT X aa ab gc))(k:PSs X p (tS X aa ab f))(l:PSs X r (tS X aa ab g)):PS X (.If c p r pos) (tS X aa ab (dk gc f g)) :=
 (ZZ hc k l).imp λD σ H ⟨F,st,R,h⟩=>⟨F,st,R,h.bnd λx y F1 d o i q m j=>by
  cases m;cases x with
  | true=>exact⟨F1,d,i,j⟩
  | false=>exact⟨F1,d,i,j⟩⟩
def gj(fe:Gx PV):Gx fD:=bnd fe λ_=>aV .nx
def WG(he:PE X e (tE X aa ab fe))(d:swapsWith e none pos.line X.env=pure false:=by rfl):PS X (.Expr e pos) (tS X aa ab (gj fe)):=(Pn he d).imp λD σ H ⟨F,st,R,h⟩ =>
 ⟨F,st,R,h.bnd λp v F1 l i j m o k=>At.aV k F1 σ i j (Gr.refl _)⟩
abbrev Tg:=PV->dB->Option dB
abbrev Zh:=List PV->dB->Option dB
def tG(K:W.Frag)(aa:Hp)(ab:Fz)(g:Tg):TG:=λv m H Q=>∃F d p i,Rep K aa ab F d m H/\b6 K F p v/\g p d=some i/\∀j k l,Rep K aa ab l i j k->Gr F l->Q j k
def tGs(K:W.Frag)(aa:Hp)(ab:Fz)(g:Zh):VJ:=λm o H Q=>∃F d ps i,Rep K aa ab F d o H/\aI K F ps m/\g ps d=some i/\∀j k l,Rep K aa ab l i j k->Gr F l->Q j k
noncomputable def aX(i:Nat):Tg:=λp d=>if i<d.ρ.length then some ⟨d.ρ.set i (some p),d.h⟩else none
def Lc.set{K:W.Frag}(L:Lc K F ρ σ)(d:i<ρ.length)(k:b6 K F p v):Lc K F (ρ.set i (some p)) (σ.set i (some v)) where
 av:=λj q e=>by
  by_cases h:i=j
  ·subst h;rw[sS d]at e;cases e;exact⟨v,sS (by rw[<-L.len];exact d),k⟩
  ·rw[pC h]at e;rw[pC h];exact L.av j q e
 len:=by rw[yA,yA];exact L.len
def WH(i:Nat)(h:PG X (.Name x pos) (gName i)):PG X (.Name x pos) (tG X.K aa ab (aX i)):=h.imp <| by
 rintro v σ H Q ⟨F,st,p,k,R,d,hf,q⟩
 obtain⟨j,rfl⟩:=aU hf;exact q _ _ _ ⟨R.c,R.l.set j d⟩ (Gr.refl F)
def uz:Zh:=λps d=>match ps with | []=>some d | _=>none
def eP(g:Tg)(r:Zh):Zh:=λps d=>match ps with | p::ps=>(g p d).bind λi=>r ps i | []=>none
def WI:PGs X [] (tGs X.K aa ab uz):=Pq.imp <| by
 rintro i σ H Q ⟨F,st,ps,j,R,d,hf,q⟩
 cases ps with
 | nil=>cases hf;exact⟨d.c6,q _ _ _ R (Gr.refl F)⟩
 | cons _ _=>cases hf
def Ri(h1:PG X e (tG X.K aa ab t))(j:PGs X es (tGs X.K aa ab u))(k:(assignEach (e::es) X.env).map (·.2)=assign e X.env::(assignEach es X.env).map (·.2):=by rfl) :
  PGs X (e::es) (tGs X.K aa ab (eP t u)):=(Lx h1 j k).imp <| by
 rintro D σ H Q ⟨F,st,ps,l,R,m,hf,q⟩
 cases ps with
 | nil=>cases hf
 | cons p ps =>
  obtain⟨v,r,rfl,o,b2⟩:=m.cD;obtain⟨d,e1,w⟩:=bt hf;exact⟨v,r,rfl,F,st,p,d,R,o,e1,λE I F1 x i=>⟨F1,d,ps,l,x,b2.mono i,w,λy B F2 R2 C=>q y B F2 R2 (i.trans C)⟩⟩
noncomputable def jZ(n:Nat)(t:Zh):Tg:=λp d=>match p with | .nd .aq ps=>if ps.length=n then t ps d else none | _=>none
def aaV(hc:X.calm=true)(h:PGs X es (tGs X.K aa ab t))(j:(assignEach es X.env).length=n:=by rfl)(l:(assignEach es X.env).findIdx? (·.1)=none:=by rfl) :
  PG X (.Tuple es k pos) (tG X.K aa ab (jZ n t)):=(VL hc h j l).imp <| by
 rintro v σ H Q ⟨F,st,p,m,R,o,d,q⟩
 unfold jZ at d;split at d
 ·rename_i ps;obtain⟨r,d⟩:=bP d;obtain⟨a,u,rfl,w,i⟩:=c5.mp o;exact⟨a,u,rfl,bQ R.sub w,by rw[<-i.length];exact r,F,st,ps,m,R,i,d,q⟩
 ·cases d
noncomputable def stp(g:dB->Option dB):Gx fD:=λd=>(g d).map λi=>(.ok .nx,i)
def Sa.stp{st:dB}{g:dB->Option dB}(h:Sa X aa ab F D st (stp g)):∃d,g st=some d/\∀F' i H',Rep X.K aa ab F' d i H'->Gr F F'->D.nx i H':=by
 obtain⟨r,j,k⟩:=h;obtain⟨d,e1,l⟩:=bE j;subst l;exact⟨d,e1,k⟩
def dh(fe:Gx PV)(g:Tg):Gx fD:=bnd fe λp=>stp (g p)
def Rj{g:Tg}(h:tS X aa ab (dh fe g) D σ H):Pr (tE X aa ab fe) (tG X.K aa ab g) D σ H:=by
 obtain⟨F,d,R,h⟩:=h;refine⟨F,d,R,h.bnd λp v F1 i t j u k l=>?_⟩
 obtain⟨m,e,z⟩:=l.stp;exact⟨F1,i,p,m,j,k,e,λo q F2 R2 r=>z F2 o q R2 r⟩
def aaW{g:Tg}(he:PE X e (tE X aa ab fe))(d:PG X tg (tG X.K aa ab g))(i:swapsWithSole [tg] e pos.line X.env=pure false:=by rfl)(hw:swappedStores [tg] e X.env=pure none:=by rfl)
  (h1:(assignEach [tg] X.env).map (·.2)=[assign tg X.env]:=by rfl):PS X (.Assign [tg] e pos) (tS X aa ab (dh fe g)):=(Ly he d i hw h1).imp λ_ _ _ h=>Rj h
def Walk(K:W.Frag)(F:Fz)(ps:List PV)(J:It):Prop:=∀(aa:Hp) (ab d:Fz) (st:dB) (σ:St) (H:Hp),Rep K aa ab d st σ H->Gr F d->∀i:Nat,
 (∀p,ps[i]?=some p->J.go i H/\∀x k,J.yld i H x k->∃j,Rep K aa ab j st σ k/\Gr d j/\b6 K j p x)/\(ps[i]?=none->J.stop i H)
abbrev tI(X:Cx)(aa:Hp)(ab:Fz)(f:Gx (List PV)):TI:=tX X aa ab (Walk X.K) f
def xg(r:Gx fD):fD->Gx fD
 | .nx=>r
 | .ct=>r
 | .bk=>aV .nx
 | .rt p=>aV (.rt p)
def dX(g:Tg)(body:Gx fD):List PV->Gx fD
 | []=>aV .nx
 | p::ps=>bnd (stp (g p)) λ_=>bnd body (xg (dX g body ps))
def Sa.nJ{st:dB}(N:St->Hp->Prop)(hN:∀F1 j d i,Rep X.K aa ab F1 j d i->Gr F F1->Sa X aa ab F1 D j r->N d i)(h:Sa X aa ab F D st (U.bnd fb (xg r))):Sa X aa ab F {D with nx:=N,ct:=N,bk:=D.nx} st fb :=
 At.imp (At.bnd h) (Gr.refl F) λo j q=>match o,q with
  | .nx,q=>λF1 d i l k=>hN F1 j d i l k (Sa.mono q k)
  | .ct,q=>λF1 d i l k=>hN F1 j d i l k (Sa.mono q k)
  | .bk,q=>λm u t=>At.aV q m u t
  | .rt p,q=>λv m t=>At.aV q v m t
def j0(gc:Gx Bool)(body:Gx fD):Nat->Gx fD
 | 0=>λ_=>none
 | n+1=>bnd gc λc=>if c=true then bnd body (xg (j0 gc body n))else aV .nx
def Rl(n:Nat)(hp:PassesOwn (model X.prog X.w) X.A X.env X.xe)(hc:PT X c (tT X aa ab gc))(v:PSs X body (tS X aa ab fb)):PS X (.While c body [] pos) (tS X aa ab (j0 gc fb n)) :=
 (Lz hp hc v).imp <| by
 rintro D σ H ⟨F,st,R,h⟩
 refine⟨λm k l=>∃i j,Rep X.K aa ab i j k l/\Sa X aa ab i D j (j0 gc fb m),⟨n,F,st,R,h⟩,λm k l ⟨i,j,B,o⟩=>?_⟩
 cases m with
 | zero=>obtain⟨r,e,_⟩:=o;cases e
 | succ m =>
  refine⟨i,j,B,Sa.bnd o λx y F1 C E p Q I q=>?_⟩
  cases I;cases x with
  | false=>exact At.aV q F1 k E p (Gr.refl _)
  | true=>exact⟨λt u=>∃F2 d,Rep X.K aa ab F2 d t u/\Sa X aa ab F2 D d (j0 gc fb m),λt u J=>⟨m,tw m,J⟩,F1,C,p,Sa.nJ _ (λL M T Y N Z z=>⟨L,M,N,z⟩) q⟩
end
def _root_.L2.Inv.GZ(I:Inv X c σ H s)(h:lF X.K H a xs):∃(b:List Value) (n:Nat),Vals xs b/\s.heap.get? a=some {cls:=.type "list",data:=.seq b.toArray n}/\xs.length<=sizeLine:=by
 rcases h with h | ⟨b,n,e,z,r⟩
 ·obtain⟨z,b,n,r,e⟩:=h.ok I.hok;exact⟨b,n,r,e,z⟩
 ·exact⟨b,n,r,I.tZ a _ e,by rw[r.length];exact z⟩
def sizeOk(n:Nat)(p:PV):Option PV:=if n<=gF then some p else none
def kW(h:sizeOk n p=some q):n<=sizeLine/\p=q:=by
 obtain⟨a,b⟩:=aU h;exact⟨gi a,b⟩
def BA(h:List aE)(p:PV):Option (List PV):=match cO h p with | some (.lst,ps)=>some ps | _=>none
def ik(e:BA h p=some ps):cO h p=some (.lst,ps):=by
 unfold BA at e;split at e
 ·grind
 ·cases e
def eQ:G2:=λh p q=>match p,q with
 | .int i,.int j=>some (.int (i+j))
 | .str x,.str y=>sizeOk (x.length+y.length) (.str (x++y))
 | .nd .aq a,.nd .aq b=>sizeOk (a.length+b.length) (.aq (a++b))
 | p,q=>(BA h p).bind λa=>(BA h q).bind λb=>sizeOk (a.length+b.length) (.lst (a++b))
noncomputable def uA(c:Int->Int->Bool)(f:Int->Int->PV):G2:=λ_ p q=>match p,q with
 | .int i,.int j=>if c i j=true then some (f i j)else none
 | _,_=>none
def G0:Int:=18446744073709551616
def WK:G2:=uA (λ_ _=>true) λi j=>.int (i-j)
def v9:G2:=uA (λi j=>decide ((-G0<i/\i<G0)\/(-G0<j/\j<G0))) λi j=>.int (i*j)
def jF:G2:=uA (λ_ j=>decide (0<j/\j<1073741824)) λi j=>.int (i/j)
def gX:G2:=uA (λ_ j=>decide (0<j)) λi j=>.int (i%j)
def Rm:G2:=uA (λi j=>decide (0<=j/\j<=1000/\i.natAbs<1000)) λi j=>.int (i^j.toNat)
def Mh:G2:=uA (λ_ _=>true) λi j=>.bl (decide (i<j))
def leO:G2:=uA (λ_ _=>true) λi j=>.bl (decide (i<=j))
def Zi:G2:=uA (λ_ _=>true) λi j=>.bl (decide (j<=i))
section
variable {X:Cx}
def Mi{ws:List Value}(ht:IsTup s.heap t ([]:List Value).toArray)(i:IsTup s.heap b ws.toArray)(h1:Q (.ref b) s):wpAny (model prog w) A (binaryOp .Add (.ref t) (.ref b)) Q E s:=by
 obtain⟨⟨j,k,g,l⟩,ho,hc,n,hd⟩:=id ht;obtain⟨⟨m,e,o,f⟩,a,c,p,d⟩:=id i;simp only at hc hd c d;subst hc hd c d;exact concat_meets ⟨_,ho,rfl⟩ ⟨_,a,rfl⟩ Eb seq_tuple_add DU DR (DP _ _) (tuple_addW0 t b _ ws.toArray n p k e l f (by simp)) ⟨ho,a,h1⟩
def Rq:y0 X (binaryOp .Add) eQ:=by
 rintro C s σ H x y v u Q I d f ⟨aa,ab,F,st,τ,pa,pb,p,e,R,o,t,k⟩
 unfold eQ at e;split at e
 ·cases e;rw[aN.mp o]at d;rw[aN.mp t]at f;exact VV C s σ H _ _ v u Q I d f ⟨_,_,rfl,rfl,k _ H F R (Gr.refl F) (aN.mpr rfl)⟩
 ·obtain⟨l,rfl⟩:=kW e;rw[di.mp o]at d;rw[di.mp t]at f;exact Ew C s σ H _ _ v u Q I d f ⟨_,_,rfl,rfl,l,k _ H F R (Gr.refl F) (di.mpr rfl)⟩
 ·rename_i M T;obtain⟨l,rfl⟩:=kW e;obtain⟨a,j,rfl,w,c⟩:=c5.mp o;obtain⟨b,ws,rfl,B,g⟩:=c5.mp t;have i:=bQ R.sub w;have N:=bQ R.sub B;cases M with
  | nil =>
   rw[c.c6]at i;cases d;cases f;obtain⟨D,Y,Z,_⟩:=I.tuple i;obtain⟨E,J,p2,_⟩:=I.tuple N;cases Y;exact Mi Z p2 ⟨.ref b,H,I,rfl,k _ H F R (Gr.refl F) (c5.mpr ⟨b,ws,rfl,B,g⟩)⟩
  | cons x0 xr =>
   refine P0 C s σ H _ _ v u Q I d f ⟨a,b,j,ws,rfl,rfl,i,N,?_,by rw[<-c.length,<-g.length];exact l,λz=>?_,λz q hq=>?_⟩
   ·intro z;have:=c.length;rw[z]at this;cases this
   ·subst z;have hy:=mJ g.length;subst hy;rw[dc]at k;exact k _ H F R (Gr.refl F) (c5.mpr ⟨a,j,rfl,w,c⟩)
   ·obtain⟨R2,m⟩:=R.laid (.aq (j++ws)) hq;exact k _ _ _ R2 m (c5.mpr ⟨q,_,rfl,jx.of aK,(c.append g).mono m⟩)
 ·obtain⟨M,e1,e⟩:=bt e;obtain⟨T,L,e⟩:=bt e;obtain⟨l,rfl⟩:=kW e;obtain⟨a,j,rfl,w,c⟩:=R.at (ik e1) o;obtain⟨b,ws,rfl,B,g⟩:=R.at (ik L) t;cases d;cases f;obtain⟨D,n,r,e1,z1⟩:=I.GZ w;obtain⟨E,n2,J,L,z2⟩:=I.GZ B;have hl:=r.length;have Mj:=J.length;have TY:j.length+ws.length<=sizeLine:=by rw[<-c.length,<-g.length];exact l
  refine PySem.P.add_list e1 L ?_ (by grind)
  have ea:D.toArray++E.toArray=(D++E).toArray:=by simp
  rw[ea];obtain⟨R2,m⟩:=R.laid (.lst (j++ws)) I.fresh;exact⟨.ref _,_,I.aeW (r.append J) (by grind),rfl,k _ _ _ R2 m (gL.mpr ⟨_,_,rfl,lF.of aK,(c.append g).mono m⟩)⟩
def hJ(ho:OpR X f (rI C h))(hc:∀i j,c i j=true->C i j)(d:∀i j F,b6 X.K F (g i j) (h i j)):y0 X f (uA c g):=by
 rintro l s σ H x y v u Q I a b ⟨r,t,F,st,w,B,D,p,e,R,m,o,k⟩
 unfold uA at e;split at e
 ·obtain⟨q,rfl⟩:=aU e;rw[aN.mp m]at a;rw[aN.mp o]at b;exact ho l s σ H _ _ v u Q I a b ⟨_,_,rfl,rfl,hc _ _ q,k _ H F R (Gr.refl F) (d _ _ F)⟩
 ·cases e
def BB(ho:OpR X f (Pu h)):OpR X f (rI (λ_ _=>True) h):=(by rintro a s σ H x y v u Q I b c ⟨i,j,d,e,_,q⟩;exact ho a s σ H x y v u Q I b c ⟨i,j,d,e,q⟩)
end
def WM:Operator->Option G2
 | .Add=>some eQ
 | .Sub=>some WK
 | .Mult=>some v9
 | .FloorDiv=>some jF
 | .Mod=>some gX
 | .Pow=>some Rm
 | _=>none
def Ru(h:WM op=some g):y0 X (binaryOp op) g:=by
 unfold WM at h;split at h<;>cases h
 ·exact Rq
 ·exact hJ (BB VW) (by grind) λ_ _ _=>aN.mpr rfl
 ·exact hJ VX (λi j e=>show(-G0<i/\i<G0)\/(-G0<j/\j<G0)from fJ e) λ_ _ _=>aN.mpr rfl
 ·exact hJ Px (λ_ j e=>show 0<j/\j<1073741824 from fJ e) λ_ _ _=>aN.mpr rfl
 ·exact hJ VY (λ_ _ e=>fJ e) λ_ _ _=>aN.mpr rfl
 ·exact hJ VZ (λ_ _ e=>let ⟨a,c,b⟩:=fJ e;⟨a,by lia,pQ b (by decide)⟩) λ_ _ _=>aN.mpr rfl
inductive Tr where
 | cf | bl (b:Bool) | int (i:Int) | str (x:Str) | aq (xs:List Tr) | lst (xs:List Tr)
mutual
def eqT:Tr->Tr->Bool
 | .cf,.cf=>true
 | .bl a,.bl b=>a==b
 | .bl a,.int b=>(if a then 1 else 0)==b
 | .int a,.bl b=>a==(if b then 1 else 0)
 | .int a,.int b=>a==b
 | .str a,.str b=>a==b
 | .aq xs,.aq c=>pZ xs c
 | .lst xs,.lst c=>pZ xs c
 | _,_=>false
def pZ:List Tr->List Tr->Bool
 | [],[]=>true
 | x::xs,y::a=>eqT x y&&pZ xs a
 | _,_=>false
end
mutual
def dep:Tr->Nat
 | .aq xs=>lW xs+1
 | .lst xs=>lW xs+1
 | _=>0
def lW:List Tr->Nat
 | []=>0
 | x::xs=>max (dep x) (lW xs)
end
mutual
theorem kX:∀p:Tr,eqT p p=true
 | .cf=>rfl
 | .bl b=>tx b
 | .int b=>tx b
 | .str b=>tx b
 | .aq xs=>p0 xs
 | .lst xs=>p0 xs
theorem p0:∀ps:List Tr,pZ ps ps=true
 | []=>rfl
 | x::xs=>gQ.mpr ⟨kX x,p0 xs⟩
end
theorem nZ:∀{xs a:List Tr},xs.length≠a.length->pZ xs a=false
 | [],[],h=>absurd rfl h
 | [],_::_,_=>rfl
 | _::_,[],_=>rfl
 | x::xs,y::a,h=>by show(eqT x y&&pZ xs a)=false;rw[nZ (by simpa using h),Bool.and_false]
noncomputable def uB(xs a:List Tr)(j:Nat):Bool:=match xs[j]?,a[j]? with
 | some x,some y=>eqT x y
 | _,_=>true
theorem n6:∀{xs a:List Tr},xs.length=a.length->(List.range xs.length).all (uB xs a)=pZ xs a
 | [],[],_=>rfl
 | [],_::_,h=>by cases h
 | _::_,[],h=>by cases h
 | x::xs,y::a,h=>by
  have ih:=n6 (by simpa using h)
  rw[aR,DV,iz,List.all_map];have b:uB (x::xs) (y::a) 0=eqT x y:=rfl;have e1:(uB (x::xs) (y::a) ∘ Nat.succ)=uB xs a:=by
   funext j
   simp[uB,Function.comp]
  rw[b,e1,ih];rfl
def G1(h1:xs.length=m)(b:a.length=n):((List.range (min m n)).all (uB xs a)&&(m==n))=pZ xs a:=by
 subst h1 b;by_cases h:xs.length=a.length
 ·rw[<-h,Nat.min_self,n6 h];simp
 ·rw[nZ h];simp[h]
mutual
def dU(s:Shared):Tr->Value->Prop
 | .cf,u=>u=.none
 | .bl b,u=>u=.bool b
 | .int i,u=>∃t,u=.int i t
 | .str x,u=>∃t,u=.str x t
 | .aq d,u=>∃a c,u=.ref a/\s.heap.IsTuple a c.toArray/\cH s d c
 | .lst d,u=>∃a c,u=.ref a/\s.heap.IsList a c.toArray/\cH s d c
def cH(s:Shared):List Tr->List Value->Prop
 | [],us=>us=[]
 | t::a,us=>∃u r,us=u::r/\dU s t u/\cH s a r
end
section
variable {A:Around} {s:Shared}
theorem cH.len:∀{ts:List Tr} {us:List Value},cH s ts us->ts.length=us.length
 | [],_,h=>by simp only[cH]at h;rw[h];rfl
 | _::_,_,h=>by
  simp only[cH]at h;obtain⟨u,r,rfl,_,h⟩:=h;simp[cH.len h]
def lG(h1:s.heap.IsTuple a x)(f:s.heap.IsTuple a y):x=y:=by
 obtain⟨o,e,_,n,d⟩:=h1;obtain⟨g,b,_,i,c⟩:=f;rw[e]at b;cases b;rw[d]at c;cases c;rfl
def nH(h1:s.heap.IsList a x)(f:s.heap.IsList a y):x=y:=by
 obtain⟨o,e,_,n,d⟩:=h1;obtain⟨g,b,_,i,c⟩:=f;rw[e]at b;cases b;rw[d]at c;cases c;rfl
def uC(h1:s.heap.IsTuple a x)(g:s.heap.IsList a y):False:=by
 obtain⟨o,e,c,n,d⟩:=h1;obtain⟨i,b,f,j,k⟩:=g;rw[e]at b;cases b;rw[c]at f;simp at f
mutual
theorem dU.inj:∀{p q:Tr} {u:Value},dU s p u->dU s q u->p=q
 | .cf,q,u,h,c=>by cases q<;>simp_all [dU]
 | .bl b,q,u,h,c=>by cases q<;>simp_all [dU]
 | .int b,q,u,h,c=>by
  simp only[dU]at h;obtain⟨t,rfl⟩:=h;cases q<;>simp_all [dU]
 | .str b,q,u,h,c=>by
  simp only[dU]at h;obtain⟨t,rfl⟩:=h;cases q<;>simp_all [dU]
 | .aq xs,q,u,h,c=>by
  simp only[dU]at h;obtain⟨a,j,rfl,g,k⟩:=h;cases q with
  | aq l =>
   simp only[dU]at c;obtain⟨b,d,e,f,i⟩:=c;cases e;have:=lG g f;have e:j=d:=by simpa using this
   subst e;rw[cH.inj k i]
  | lst l =>
   simp only[dU]at c;obtain⟨b,d,e,f,i⟩:=c;cases e;exact(uC g f).elim
  | _=>simp[dU]at c
 | .lst xs,q,u,h,c=>by
  simp only[dU]at h;obtain⟨a,j,rfl,g,k⟩:=h;cases q with
  | lst l =>
   simp only[dU]at c;obtain⟨b,d,e,f,i⟩:=c;cases e;have:=nH g f;have e:j=d:=by simpa using this
   subst e;rw[cH.inj k i]
  | aq l =>
   simp only[dU]at c;obtain⟨b,d,e,f,i⟩:=c;cases e;exact(uC f g).elim
  | _=>simp[dU]at c
theorem cH.inj:∀{ps a:List Tr} {us:List Value},cH s ps us->cH s a us->ps=a
 | [],a,us,h,b=>by
  simp only[cH]at h;subst h;cases a with
  | nil=>rfl
  | cons _ _=>simp[cH]at b
 | p::ps,a,us,h,b=>by
  simp only[cH]at h;obtain⟨u,r,rfl,c,d⟩:=h;cases a with
  | nil=>simp[cH]at b
  | cons q a =>
   simp only[cH]at b;obtain⟨i,j,e,f,g⟩:=b;cases e;rw[dU.inj c f,cH.inj d g]
end
def uD(h:b=c)(r:SeqAt.RcAt A s u w b):SeqAt.RcAt A s u w c:=h▸r
def m4(h:b = !c)(r:SeqAt.RcNeAt A s u w b):SeqAt.RcNeAt A s u w (!c):=h▸r
def G3(c:∀x t,u≠.float x t)(h:SeqAt.RcAt A s u w b)(d:u=w->b=true):SeqAt.EqAt A s u w b:=λprog v E Q a=>by
 unfold eqBool;refine fy ?_;refine Ee (λz=>?_) (λ_=>?_)
 ·rw[d (bu z)]at a;exact ag (gD (ao a))
 ·cases u with
  | float x t=>exact absurd rfl (c x t)
  | _=>exact ag (h prog v E _ (mN a))
def dU.Ub(h:dU s p u):∀y t,u≠.float y t:=λy t z=>by
 subst z;cases p<;>simp[dU]at h
mutual
theorem zf:∀(p q:Tr) (A:Around) (u w:Value),dU s p u->dU s q w->A.units+dep p<cLine->SeqAt.RcAt A s u w (eqT p q)/\SeqAt.RcNeAt A s u w (!(eqT p q))
 | .cf,q,A,u,w,f,c,g=>by
  have b:A.units<cLine := ‹_›;subst f;cases q with
  | cf=>cases c;exact⟨.none_none,.none_none⟩
  | bl=>cases c;exact⟨(.none_bool _),(.none_bool _)⟩
  | int=>obtain⟨t,rfl⟩:=c;exact⟨(.none_int _ _),(.none_int _ _)⟩
  | str=>obtain⟨t,rfl⟩:=c;exact⟨(.none_str _ _),(.none_str _ _)⟩
  | aq=>obtain⟨a,i,rfl,d,_⟩:=c;exact⟨(.none_tuple d b),(.none_tuple d b)⟩
  | lst=>obtain⟨a,i,rfl,d,_⟩:=c;exact⟨(.none_list d b),(.none_list d b)⟩
 | .bl k,q,A,u,w,f,c,g=>by
  have b:A.units<cLine := ‹_›;subst f;cases q with
  | cf=>cases c;exact⟨(.bool_none _),(.bool_none _)⟩
  | bl=>cases c;exact⟨(.bool_bool _ _),(.bool_bool _ _)⟩
  | int=>obtain⟨t,rfl⟩:=c;exact⟨(.bool_int _ _ _),(.bool_int _ _ _)⟩
  | str=>obtain⟨t,rfl⟩:=c;exact⟨(.bool_str _ _ _),(.bool_str _ _ _)⟩
  | aq=>obtain⟨a,i,rfl,d,_⟩:=c;exact⟨(.bool_tuple _ d b),(.bool_tuple _ d b)⟩
  | lst=>obtain⟨a,i,rfl,d,_⟩:=c;exact⟨(.bool_list _ d b),(.bool_list _ d b)⟩
 | .int k,q,A,u,w,f,c,g=>by
  have b:A.units<cLine := ‹_›;obtain⟨D,rfl⟩:=f;cases q with
  | cf=>cases c;exact⟨(.int_none _ _),(.int_none _ _)⟩
  | bl=>cases c;exact⟨(.int_bool _ _ _),(.int_bool _ _ _)⟩
  | int=>obtain⟨t,rfl⟩:=c;exact⟨(.int_int _ _ _ _),(.int_int _ _ _ _)⟩
  | str=>obtain⟨t,rfl⟩:=c;exact⟨(.int_str _ _ _ _),(.int_str _ _ _ _)⟩
  | aq=>obtain⟨a,i,rfl,d,_⟩:=c;exact⟨(.int_tuple _ _ d b),(.int_tuple _ _ d b)⟩
  | lst=>obtain⟨a,i,rfl,d,_⟩:=c;exact⟨(.int_list _ _ d b),(.int_list _ _ d b)⟩
 | .str k,q,A,u,w,f,c,g=>by
  have b:A.units<cLine := ‹_›;obtain⟨D,rfl⟩:=f;cases q with
  | cf=>cases c;exact⟨(.str_none _ _),(.str_none _ _)⟩
  | bl=>cases c;exact⟨(.str_bool _ _ _),(.str_bool _ _ _)⟩
  | int=>obtain⟨t,rfl⟩:=c;exact⟨(.str_int _ _ _ _),(.str_int _ _ _ _)⟩
  | str=>obtain⟨t,rfl⟩:=c;exact⟨(.str_str _ _ _ _),(.str_str _ _ _ _)⟩
  | aq=>obtain⟨a,i,rfl,d,_⟩:=c;exact⟨(.str_tuple _ _ d b),(.str_tuple _ _ d b)⟩
  | lst=>obtain⟨a,i,rfl,d,_⟩:=c;exact⟨(.str_list _ _ d b),(.str_list _ _ d b)⟩
 | .aq xs,q,A,u,w,f,c,g=>by
  have b:A.units<cLine:=by lia
  obtain⟨E,l,rfl,e,v⟩:=f;cases q with
  | cf=>cases c;exact⟨(.tuple_none e b),(.tuple_none e b)⟩
  | bl=>cases c;exact⟨(.tuple_bool _ e b),(.tuple_bool _ e b)⟩
  | int=>obtain⟨t,rfl⟩:=c;exact⟨(.tuple_int _ _ e b),(.tuple_int _ _ e b)⟩
  | str=>obtain⟨t,rfl⟩:=c;exact⟨(.tuple_str _ _ e b),(.tuple_str _ _ e b)⟩
  | lst=>obtain⟨a,i,rfl,d,_⟩:=c;exact⟨(.tuple_list e d b),(.tuple_list e d b)⟩
  | aq o =>
   obtain⟨a,m,rfl,d,tR⟩:=c;have e1:xs.length=l.toArray.size:=by rw[fK,v.len]
   have x:o.length=m.toArray.size:=by rw[fK,tR.len]
   have y:=λj (B:j<l.toArray.size) (C:j<m.toArray.size)=>zg xs o A.in1 l m v tR (by rw[yt];have g:_+(lW _+1)<_:=g;lia) j (by simpa using B) (by simpa using C)
   exact⟨uD (G1 e1 x) (.tuples e d b y),m4 (by rw[G1 e1 x];rfl) (.tuples e d b y)⟩
 | .lst xs,q,A,u,w,f,c,g=>by
  have b:A.units<cLine:=by lia
  obtain⟨E,l,rfl,e,v⟩:=f;cases q with
  | cf=>cases c;exact⟨(.list_none e b),(.list_none e b)⟩
  | bl=>cases c;exact⟨(.list_bool _ e b),(.list_bool _ e b)⟩
  | int=>obtain⟨t,rfl⟩:=c;exact⟨(.list_int _ _ e b),(.list_int _ _ e b)⟩
  | str=>obtain⟨t,rfl⟩:=c;exact⟨(.list_str _ _ e b),(.list_str _ _ e b)⟩
  | aq=>obtain⟨a,i,rfl,d,_⟩:=c;exact⟨(.list_tuple e d b),(.list_tuple e d b)⟩
  | lst o =>
   obtain⟨a,m,rfl,d,tR⟩:=c;have e1:l.toArray.size=xs.length:=by rw[fK,v.len]
   have x:m.toArray.size=o.length:=by rw[fK,tR.len]
   by_cases r:xs.length=o.length
   ·have sz:l.toArray.size=m.toArray.size:=by rw[e1,x];exact r
    have y:=λj (B:j<l.toArray.size) (C:j<m.toArray.size)=>zg xs o A.in1 l m v tR (by rw[yt];have g:_+(lW _+1)<_:=g;lia) j (by simpa using B) (by simpa using C)
    exact⟨uD (by rw[e1,n6 r];rfl) (.lists e d sz b y),m4 (by rw[e1,n6 r];rfl) (.lists e d sz b y)⟩
   ·have sz:(l.toArray.size != m.toArray.size)=true:=by rw[e1,x];simpa using r
    exact⟨uD (nZ r).symm (.lists_lengths e d sz b),m4 (dO not (nZ r)).symm (.lists_lengths e d sz b)⟩
theorem zg:∀(ps a:List Tr) A (us zs:List Value),cH s ps us->cH s a zs->A.units+lW ps<cLine ->
  ∀j h1 (c:j<zs.length),SeqAt.EqAt A s us[j] zs[j] (uB ps a j)
 | [],a,A,us,zs,b,b2,f=>λj h1 c=>by
  simp only[cH]at b;subst b;cases h1
 | p::ps,a,A,us,zs,b,b2,f=>λj h1 c=>by
  simp only[cH]at b;obtain⟨u,m,rfl,d,k⟩:=b;cases a with
  | nil =>
   simp only[cH]at b2;subst b2;cases c
  | cons q a =>
   simp only[cH]at b2;obtain⟨z,o,rfl,g,l⟩:=b2;have i:A.units+dep p<cLine/\A.units+lW ps<cLine:=by
    simp only[lW]at f
    lia
   cases j with
   | zero =>
    refine G3 d.Ub (zf p q A _ _ d g i.1).1 λe=>?_
    simp only[List.getElem_cons_zero]at e;rw[e]at d;rw[d.inj g];exact kX q
   | succ j=>exact zg ps a A _ _ k l i.2 j (by simpa using h1) (by simpa using c)
end
def WN(a:dU s p u)(b2:dU s q w)(b:A.units+dep p<cLine):SeqAt.EqAt A s u w (eqT p q):=by
 refine G3 a.Ub (zf p q A _ _ a b2 b).1 λz=>?_
 rw[z]at a;rw[a.inj b2];exact kX q
end
noncomputable def c9{a b:Type}(f:a->Option b):List a->Option (List b)
 | []=>some []
 | x::xs=>(f x).bind λy=>(c9 f xs).map λc=>y::c
def Ml:Kd->List Tr->Option Tr
 | .aq,a=>some (.aq a)
 | .lst,a=>some (.lst a)
 | _,_=>none
def toT(h:List aE):Nat->PV->Option Tr
 | 0,_=>none
 | n+1,p=>match p with
  | .cf=>some .cf
  | .bl b=>some (.bl b)
  | .int i=>some (.int i)
  | .str x=>some (.str x)
  | .fn _=>none
  | p=>(cO h p).bind λq=>(c9 (toT h n) q.2).bind (Ml q.1)
def gG(h:c9 f (x::xs)=some a):∃y r,f x=some y/\c9 f xs=some r/\a=y::r:=by
 obtain⟨y,b,c⟩:=bt h;obtain⟨r,d,e⟩:=bE c;exact⟨y,r,b,d,e.symm⟩
theorem zh(h:List aE):∀(n:Nat) (p:PV) (t:Tr),toT h n p=some t->dep t<=n
 | 0,_,_,e=>by cases e
 | n+1,p,t,e=>by
  have go:((cO h p).bind λq=>(c9 (toT h n) q.2).bind (Ml q.1))=some t->dep t<=n+1:=λe=>by
   obtain⟨q,_,e⟩:=bt e;obtain⟨a,e1,b⟩:=bt e;have hd:∀ps a,c9 (toT h n) ps=some a->lW a<=n:=by
    intro ps;induction ps with
    | nil=>intro a z;cases z;simp[lW]
    | cons p ps ih =>
     intro a z;obtain⟨y,r,c,d,rfl⟩:=gG z;have:=zh h n p y c;have:=ih r d;simp only[lW];lia
   have:=hd _ _ e1;unfold Ml at b;split at b<;>cases b<;>simp only[dep]<;>lia
  unfold toT at e;split at e<;>first | (cases e;simp[dep];done) | (cases e;done) | exact go e
section
variable {X:Cx} {ae:List (Addr×Obj)} {σ τ:St} {s:Shared} {aa H:Hp} {ab F:Fz} {st:dB}
theorem Rep.tree(R:Rep X.K aa ab F st τ H)(I:Inv X ae σ H s):∀(n:Nat) (p:PV) (t:Tr) (v:V) (u:Value),toT st.h n p=some t->b6 X.K F p v->RelV v u->dU s t u
 | 0,_,_,_,_,e,_,_=>by cases e
 | n+1,p,t,v,u,e,b,r=>by
  have go:((cO st.h p).bind λq=>(c9 (toT st.h n) q.2).bind (Ml q.1))=some t->dU s t u:=λe=>by
   obtain⟨⟨k,ps⟩,B,e⟩:=bt e;obtain⟨f,e1,g⟩:=bt e;obtain⟨a,i,rfl,d,x⟩:=R.at B b;have hd:∀ps f i m,c9 (toT st.h n) ps=some f->aI X.K F ps i->Vals i m->cH s f m:=by
    intro ps;induction ps with
    | nil=>intro f i m z b r;cases z;rw[b.c6]at r;cases r;simp[cH]
    | cons p ps ih =>
     intro f i m z b r;obtain⟨y,q,C,d,rfl⟩:=gG z;obtain⟨v,w,rfl,D,b2⟩:=b.cD;cases r with
     | cons E j =>
      simp only[cH];exact⟨_,_,rfl,R.tree I n p y v _ C D E,ih q w _ d b2 j⟩
   cases r
   match k,g,d with
   | .aq,g,d =>
    cases g;obtain⟨o,j,pl,_⟩:=I.tuple d.2;simp only[dU];exact⟨a,o,rfl,pl,hd _ _ _ _ e1 x j⟩
   | .lst,g,d =>
    cases g;obtain⟨o,j,pl,_⟩:=I.list (lF.sq d);simp only[dU];exact⟨a,o,rfl,pl.isList,hd _ _ _ _ e1 x j⟩
  unfold toT at e;split at e
  ·cases e;rw[dQ.mp b]at r;cases r;simp[dU]
  ·cases e;rw[cx.mp b]at r;cases r;simp[dU]
  ·cases e;rw[aN.mp b]at r;obtain⟨t,rfl⟩:=r;simp[dU]
  ·cases e;rw[di.mp b]at r;obtain⟨t,rfl⟩:=r;simp[dU]
  ·cases e
  ·exact go e
end
def fX:Nat:=1000
def eqB(h:List aE)(p q:PV):Option Bool:=(toT h fX p).bind λx=>(toT h fX q).map λy=>eqT x y
def jG:G2:=λh p q=>(eqB h p q).map .bl
def KA:G2:=λh p q=>(eqB h p q).map λb=>.bl !b
noncomputable def qD:PV->Bool
 | .cf=>true
 | _=>false
def Zj:G2:=λ_ p q=>match q with | .cf=>some (.bl (qD p)) | _=>none
def Mm(h:List aE)(p:PV)(ps:List PV):Option Bool:=(toT h fX p).bind λx=>(c9 (toT h fX) ps).map λa=>a.any λy=>eqT y x
section
variable {X:Cx}
def BC(e:eqB h p q=some b):∃x y,toT h fX p=some x/\toT h fX q=some y/\b=eqT x y:=by
 obtain⟨x,e1,e⟩:=bt e;obtain⟨y,a,c⟩:=bE e;exact⟨x,y,e1,a,c.symm⟩
def WO(m:X.A.units+1150<cLine):y0 X (compareOp .Eq) jG:=by
 rintro o s σ H x y v u Q I a c ⟨q,r,F,st,t,B,C,p,e,R,d,f,k⟩
 obtain⟨b,g,rfl⟩:=bE e;obtain⟨i,j,e1,l,rfl⟩:=BC g;have hd:=zh _ _ _ _ e1;exact(zf i j X.A v u (R.tree I _ _ _ _ _ e1 d a) (R.tree I _ _ _ _ _ l f c) (by unfold fX at hd;lia)).1 X.prog X.w X.xe _ ⟨.bl _,H,I,rfl,k _ H F R (Gr.refl F) (cx.mpr rfl)⟩
def WQ(m:X.A.units+1150<cLine):y0 X (compareOp .NotEq) KA:=by
 rintro o s σ H x y v u Q I a c ⟨q,r,F,st,t,B,C,p,e,R,d,f,k⟩
 obtain⟨b,g,rfl⟩:=bE e;obtain⟨i,j,e1,l,rfl⟩:=BC g;have hd:=zh _ _ _ _ e1;exact(zf i j X.A v u (R.tree I _ _ _ _ _ e1 d a) (R.tree I _ _ _ _ _ l f c) (by unfold fX at hd;lia)).2 X.prog X.w X.xe _ ⟨.bl _,H,I,rfl,k _ H F R (Gr.refl F) (cx.mpr rfl)⟩
def Ry{K:W.Frag}(b:b6 K F p x):decide (x=.cf)=qD p:=by
 cases p with
 | cf=>rw[dQ.mp b];rfl
 | bl _=>rw[cx.mp b];rfl
 | int _=>rw[aN.mp b];rfl
 | str _=>rw[di.mp b];rfl
 | ref _=>obtain⟨_,_,rfl⟩:=eA.mp b;rfl
 | fn _=>obtain⟨_,rfl,_⟩:=uu.mp b;rfl
 | nd _ _=>obtain⟨_,_,rfl,_⟩:=jT.mp b;rfl
def WR:y0 X (compareOp .Is) Zj:=by
 rintro a s σ H x y v u Q I b c ⟨g,i,F,st,j,l,m,p,e,R,d,f,k⟩
 unfold Zj at e;split at e
 ·cases e;exact V2 a s σ H x y v u Q I b c ⟨dQ.mp f,k _ H F R (Gr.refl F) (cx.mpr (by rw[Ry d]))⟩
 ·cases e
open Classical in
noncomputable def oe (s:Shared) (p:Tr) (u:Value):Bool:=if h:∃q,dU s q u then eqT h.choose p else false
def G4(b:dU s q u):oe s p u=eqT q p:=by
 have h:∃q,dU s q u:=⟨q,b⟩
 unfold oe;rw[dif_pos h,dU.inj h.choose_spec b]
theorem zi:∀{ts:List Tr} {us:List Value},cH s ts us->us.any (oe s p)=ts.any λy=>eqT y p
 | [],_,b=>by simp only[cH]at b;subst b;rfl
 | q::ts,_,b=>by
  simp only[cH]at b;obtain⟨u,r,rfl,a,c⟩:=b;rw[iy,iy,G4 a,zi c]
theorem zj(c:dU s p w):∀{ts:List Tr} {us:List Value},cH s ts us->A.units+lW ts<cLine->∀u∈us,SeqAt.EqAt A s u w (oe s p u)
 | [],_,b,_=>λu a=>by simp only[cH]at b;subst b;cases a
 | q::ts,_,b,e=>λu a=>by
  simp only[cH]at b;obtain⟨g,r,rfl,d,f⟩:=b;simp only[lW]at e;rcases aW.mp a with rfl | a
  ·rw[G4 d];exact WN d c (by lia)
  ·exact zj c f (by lia) u a
theorem Rep.trees{st:dB}(R:Rep X.K j k F st m H)(I:Inv X o σ H s)(n:Nat):∀(ps:List PV) (ts:List Tr) (vs:List V) (us:List Value),c9 (toT st.h n) ps=some ts->aI X.K F ps vs->Vals vs us->cH s ts us/\lW ts<=n
 | [],ts,vs,us,z,b,r=>by cases z;rw[b.c6]at r;cases r;simp[cH,lW]
 | p::ps,ts,vs,us,z,b,r=>by
  obtain⟨y,q,a,d,rfl⟩:=gG z;obtain⟨v,w,rfl,e,b2⟩:=b.cD;cases r with
  | cons f g =>
   obtain⟨i,t⟩:=R.trees I n ps q w _ d b2 g;have:=zh _ _ _ _ a;simp only[lW];exact⟨⟨_,_,rfl,R.tree I n p y v _ a e f,i⟩,by lia⟩
def Mn(e:Mm h p ps=some b):∃x a,toT h fX p=some x/\c9 (toT h fX) ps=some a/\b=a.any λy=>eqT y x:=by
 obtain⟨x,e1,e⟩:=bt e;obtain⟨y,c,d⟩:=bE e;exact⟨x,y,e1,c,d.symm⟩
def Mo(N:X.A.units+1150<cLine){st:dB}(I:Inv X i σ H s)(o:RelV x v)(p:RelV y u)(R:Rep X.K T Y F st Z H)(B:b6 X.K F C x)(D:b6 X.K F E y)
  (J:ES st.h E=some ps) (L:Mm st.h C ps=some b) :
  (Q (.bl b) H->wpAny (model X.prog X.w) X.A (compareOp .In v u) (EP X i σ Q) X.xe s)/\(Q (.bl !b) H->wpAny (model X.prog X.w) X.A (compareOp .NotIn v u) (EP X i σ Q) X.xe s):=by
 obtain⟨t,j,e1,k,rfl⟩:=Mn L;obtain⟨a,vs,rfl,d,l⟩:=R.seq J D;have m:=R.tree I _ _ _ _ _ e1 B o;cases p;rcases d with d | d
 ·obtain⟨c,r,pl,_⟩:=I.tuple d;obtain⟨e,g⟩:=R.trees I _ _ _ _ _ k l r;have f:=λw (hw:w∈c.toArray)=>zj (A:=X.A.in1) m e (by rw[yt];unfold fX at g;lia) w (by grind)
  have M:c.toArray.any (oe s t)=j.any λy=>eqT y t:=by rw[show c.toArray.any (oe s t)=c.any (oe s t) by simp,zi e]
  exact⟨λq=>SeqAt.in_tupleAt (oe s t) pl f ⟨.bl _,H,I,rfl,by grind⟩,λq=>SeqAt.notIn_tupleAt (oe s t) pl f ⟨.bl _,H,I,rfl,by grind⟩⟩
 ·obtain⟨c,r,pl,_⟩:=I.list d.sq;obtain⟨e,g⟩:=R.trees I _ _ _ _ _ k l r;have f:=λw (hw:w∈c.toArray)=>zj (A:=X.A.in1) m e (by rw[yt];unfold fX at g;lia) w (by grind)
  have M:c.toArray.any (oe s t)=j.any λy=>eqT y t:=by rw[show c.toArray.any (oe s t)=c.any (oe s t) by simp,zi e]
  exact⟨λq=>SeqAt.in_listAt (oe s t) pl.isList f ⟨.bl _,H,I,rfl,by grind⟩,λq=>SeqAt.notIn_listAt (oe s t) pl.isList f ⟨.bl _,H,I,rfl,by grind⟩⟩
end
section
variable {K:W.Frag} {F:Fz}
def aI.mX{ps:List PV}{vs:List V}{i:Int}{p:PV}(h:aI K F ps vs)(e:L2.mX ps i=some p):∃v,L2.mX vs i=some v/\b6 K F p v:=by
 unfold L2.mX at e ⊢;rw[<-h.length];cases z:P1 ps.length i with
 | none=>rw[z]at e;cases e
 | some j =>
  rw[z]at e;exact h.get e
def lX(xs:List PV)(lo a:Option Int):List PV:=(xs.drop (HT.fE xs.length 0 lo)).take (HT.fE xs.length xs.length a-HT.fE xs.length 0 lo)
def aI.cut{ps:List PV}{vs:List V}(h:aI K F ps vs)(lo a:Option Int):aI K F (lX ps lo a) (Bf vs lo a):=by
 unfold lX Bf;rw[h.length];exact(h.drop _).take _
def eE{p:PV}{vs:List V}(b:aI K F [p] vs):∃v,vs=[v]/\b6 K F p v:=by
 obtain⟨v,r,rfl,c,d⟩:=b.cD;rw[d.c6];exact⟨v,rfl,c⟩
def rZ{p q:PV}{vs:List V}(b:aI K F [p,q] vs):∃v w,vs=[v,w]/\b6 K F p v/\b6 K F q w:=by
 obtain⟨v,r,rfl,c,d⟩:=b.cD;obtain⟨w,rfl,e⟩:=eE d;exact⟨v,w,rfl,c,e⟩
end
def og{prog:Program}{w:World}{A:Around}{E:Value->Shared->Prop}{s:Shared}{t c:Addr}{a:Array Value}{d e:Value}{lo b:Option Int}{Q:Value->Shared->Prop}(ht:IsTup s.heap t a)(f:s.heap.IsSliceOf c d e .none)(pl:IsPart d lo)(g:IsPart e b)
  (i:HT.fE a.size 0 lo=0) (h1:HT.fE a.size a.size b=a.size) (h:Q (.ref t) s):wpAny (model prog w) A (getItem (.ref t) (.ref c)) Q E s:=by
 obtain⟨j,k,l,m⟩:=id f;have o:s.TypeIs (.ref c) "slice":=⟨j,k,l⟩;unfold getItem
 try with_reducible refine fy ?_
 first | refine ag (ao ?_) | skip
 refine ag (wpAny_sequenceKey ht.typeIs (by decide) ?_)
 refine ag (kB ht.typeIs pf (iq pf ht.typeIs entry_tuple_getitem ?_ (args_tuple_getitem _ _)));show wpAny _ _ (Builtin.Tuple.tupleItemsOf (.ref t) >>= _) _ _ s;refine ag (tupleItemsOf_ ht (ag (pP o ?_)));refine ag (HT.jB f pl g ?_);have hc:(((HT.fE a.size 0 lo:Nat):Int)==0&&(1:Int)==1&&(HT.fE a.size a.size b-HT.fE a.size 0 lo)==a.size)=true:=by
  rw[i,h1];simp
 show wpAny _ _ (if(((HT.fE a.size 0 lo:Nat):Int)==0&&1==1&&(HT.fE a.size a.size b-HT.fE a.size 0 lo)==a.size)=true then _ else _) _ _ s
 rw[if_pos hc];unfold Builtin.Tuple.tupleIsExact;refine ag (ag (pP ht.typeIs (ao ?_)));exact ag (gD (ao ⟨_,rfl,ao h⟩))
def Mp(h:List aE)(lo a:Option Int)(p:PV):Option PV:=match cO h p with
 | some (.lst,ps)=>some (.lst (lX ps lo a))
 | some (.aq,ps)=>some (.aq (lX ps lo a))
 | _=>none
section
variable {X:Cx} {aa:Hp} {ab:Fz} {a b e:Expr} {es:List Expr} {fa fb:Gx PV} {ts:Gx (List PV)} {pos p1 p2:Pos} {lo hi:Option Expr}
def rSl(K:W.Frag):V->Option Int->Option Int->Hp->VK->Prop:=λx lo hi H Q=>∃aa ab F c f g p,Mp c.h lo hi g=some p/\Rep K aa ab F c f H/\b6 K F g x/\∀v i d,Rep K aa ab d c f i->Gr F d->b6 K d p v->Q v i
def slT:SlR X (rSl X.K):=by
 rintro u s σ H x v w y lo hi B Q I j l pl pu ⟨aa,ab,F,st,J,C,p,e,R,m,k⟩
 unfold Mp at e;split at e
 ·rename_i z;cases e;obtain⟨a,d,rfl,i,f⟩:=R.at z m;refine P5 u s σ H _ v w y lo hi B Q I j l pl pu ⟨a,d,rfl,lF.sq i,λq o=>?_⟩
  obtain⟨R2,g⟩:=R.laid (.lst (Bf d lo hi)) o;exact k _ _ _ R2 g (gL.mpr ⟨q,_,rfl,lF.of aK,(f.cut lo hi).mono g⟩)
 ·rename_i ps z;cases e;cases C with
  | nd L pp =>
   cases z;obtain⟨a,d,rfl,i,f⟩:=c5.mp m;by_cases hw:HT.fE d.length 0 lo=0/\HT.fE d.length d.length hi=d.length
   ·cases j;obtain⟨D,r,ht,M⟩:=I.tuple (bQ R.sub i);have N:D.toArray.size=d.length:=by rw[fK];exact r.length.symm
    refine⟨"tuple",_,pf.lookup,ht.typeIs,?_⟩;refine og ht l pl pu (by grind) (by grind) ⟨.ref a,H,I,rfl,k _ H F R (Gr.refl F) ?_⟩
    have hc:lX ps lo hi=ps:=by
     unfold lX;rw[f.length,hw.1,hw.2,yB,Nat.sub_zero,<-f.length,List.take_length]
    rw[hc];exact m
   ·refine Wa u s σ H _ v w y lo hi B Q I j l pl pu ⟨a,d,rfl,bQ R.sub i,hw,λq o=>?_⟩
    obtain⟨R2,g⟩:=R.laid (.aq (Bf d lo hi)) o;exact k _ _ _ R2 g (c5.mpr ⟨q,_,rfl,jx.of aK,(f.cut lo hi).mono g⟩)
  | ref n =>
   obtain⟨c,e1,E⟩:=bt z;obtain⟨t,T⟩:=aU E;have hk:c.k=.aq:=by grind
   unfold live at t;rw[hk]at t;cases t
  | _=>cases z
 ·cases e
abbrev WS(X:Cx)(aa:Hp)(ab:Fz)(f:Gx (Option Int)):TO:=tX X aa ab (λ_ a b=>a=b) f
def _root_.L2.PO.imp{X:Cx}{e:Option Expr}{t t':TO}(h:PO X e t)(hi:∀c H Q,t' c H Q->t c H Q):PO X e t':=λd s c H Q I hw=>h d s c H Q I (hi _ _ _ hw)
def oh:PV->Option Int | .int i=>some i | _=>none
def gH{p:PV}{i:Int}(h:oh p=some i):p=.int i:=by
 cases p<;>first | (cases h;rfl) | cases h
def oi(fe:Gx PV):Gx (Option Int):=bnd fe λp=>lV ((oh p).map some)
def WT:PO X none (WS X aa ab (aV none)):=PY.imp λc H Q h=>zb h λ_=>rfl
def WU(h:PE X e (tE X aa ab fa)):PO X (some e) (WS X aa ab (oi fa)):=(PZ h).imp λσ H Q ⟨F,st,R,h⟩=>⟨F,st,R,h.bnd λp v F1 j d f k c g=>by
 obtain⟨o,e,z⟩:=g.lV;obtain⟨i,e1,rfl⟩:=bE e;rw[gH e1]at c;exact⟨i,aN.mp c,z _ d F1 f (Gr.refl _) rfl⟩⟩
def cutE(fa:Gx PV)(c d:Gx (Option Int)):Gx PV:=bnd fa λp=>bnd c λl=>bnd d λr=>hp λh=>Mp h l r p
def aa0{d f:Gx (Option Int)}(g:PE X e (tE X aa ab fa))(i:PO X lo (WS X aa ab d))(j:PO X hi (WS X aa ab f)):PE X (.Subscript e (.Slice lo hi none p2) pos) (tE X aa ab (cutE fa d f)):=(LU slT g i j).imp λσ H Q ⟨F,st,R,h⟩ =>
 ⟨F,st,R,h.bnd λp v F1 k I m J q t=>⟨F1,k,m,t.bnd λl L F2 c M R2 u b2 w=>⟨F2,c,R2,w.bnd λr N x y T B C D E=>by
  cases b2;cases D;obtain⟨o,e,z⟩:=E.hp;exact⟨aa,ab,x,y,σ,p,o,e,B,q.mono (u.trans C),z⟩⟩⟩⟩
abbrev GC:=List aE->List PV->Option PV
def rC(K:W.Frag)(g:GC):List V->Hp->VK->Prop:=λj H Q=>∃aa ab F c f ps p,g c.h ps=some p/\Rep K aa ab F c f H/\aI K F ps j/\∀v i d,Rep K aa ab d c f i->Gr F d->b6 K d p v->Q v i
abbrev I0(X:Cx)(f:Value)(g:GC):Prop:=nK X f (rC X.K g)
def gI(g:GC)(ts:Gx (List PV)):Gx PV:=bnd ts λps=>hp λh=>g h ps
def lJ{g:GC}{c:St}{H:Hp}{Q:VK}(h:tE X aa ab (gI g ts) c H Q):tCB (rC X.K g) (tA X aa ab ts) c H Q:=by
 obtain⟨F,d,R,h⟩:=h;refine⟨F,d,R,h.bnd λps l F1 f m i p j k=>?_⟩
 obtain⟨o,e,z⟩:=k.hp;exact⟨aa,ab,F1,f,c,ps,o,e,i,j,z⟩
def lnO(h:List aE)(p:PV):Option Nat:=match cO h p with
 | some (.aq,ps)=>some ps.length
 | some (.lst,ps)=>some ps.length
 | some (.gU _ ks,_)=>some ks.length
 | _=>none
def gA:GC:=λh ps=>match ps with
 | [.str z]=>if z.length<=gF then some (.int z.length)else none
 | [p]=>(lnO h p).map λn=>.int n
 | _=>none
def Ja:GC:=λh ps=>match ps with
 | [.nd .aq c]=>some (.aq c)
 | [p]=>(BA h p).map λc=>.aq c
 | _=>none
noncomputable def Jb:GC:=λ_ ps=>match ps with
 | [.int i]=>some (.int i)
 | [.bl b]=>some (.int (if b then 1 else 0))
 | _=>none
noncomputable def Jc:GC:=λ_ ps=>match ps with
 | [.int i]=>if 0<=i/\i<1000 then some (.str (toString i))else none
 | _=>none
def mn(ps:List PV):Option (List Int):=c9 oh ps
def Jd:GC:=λh ps=>match ps with
 | [p]=>(BA h p).bind λc=>(mn c).map λd=>.int d.sum
 | _=>none
def BD{A:Around}{E:Value->Shared->Prop}{s:Shared}{d:Addr}{o:Obj}{es:Array DictEntry}{f n:Nat}{Q:Value->Shared->Prop}(hd:(d==sysModules)=false)(ho:s.heap.get? d=some o)(hc:o.ExactDict)(g:o.data=.dict es f)(i:es.size=n)(j:(n:Int)<2^63)
  (h:Q (.int n (s.toks+1)) {s with toks:=s.toks+1+1}):wpAny (model X.prog X.w) A (call (.builtin "len") [.ref d]) Q E s:=by
 have ty:s.TypeIs (.ref d) "dict":=⟨o,ho,hc.1⟩;have k:MeetsIn X.prog X.w (Builtin.«dict.__len__» ⟨[.ref d],[]⟩) (λ_ R c=>c.heap.get? d=some o/\R (.ok (.ret (.int n c.toks))) {c with toks:=c.toks+1}):=.of_wp <| by
  rintro A R c ⟨l,m⟩
  show wpAny _ _ (dictSize d >>= _) _ _ c;refine ag (ag (wpAny_dictEntries l g (ao ?_)));refine ag (wpAny_pendingCount_other hd ?_);refine wpAny_ret_mkInt ?_;rw[pN,i];exact m
 refine DN kind_len plain_len entry_len (args_len1 _) ?_;refine ag (ao ?_);refine ag (kB ty F.slot_dict_len (call_meetsIn F.slot_dict_len ty F.entry_dict_len (F.args_dict_len_1 _) k ⟨ho,?_⟩));show wpAny _ _ _ _ _ {s with toks:=s.toks+1}
 refine ag (fy (ao ?_));refine ag (wpAny_letGo ?_);show wpAny _ _ (if((n:Nat):Int)>=2^63 then _ else _) _ _ _
 rw[if_neg (by lia)]
 exact ag (wpAny_mkInt (ao ⟨_,rfl,h⟩))
def G5{n:Nat}(h:n<=sizeLine):(n:Int)<2^63:=by
 have d:n<=2^62:=bC h (by decide)
 have c:2^62=4611686018427387904:=by decide
 lia
def Rz{k:List (Addr×Obj)}{s:Shared}{l:St}{H:Hp}{a:Addr}{t:Bool}{ks:List (List bO)}{vs:List V}{m:List Value}{Q:VK}{F:Hp}(I:Inv X k l H s)(rs:Vals [V.ref a] m)(h:q9 X.K F H a false (.gU t ks) vs)(q:Q (.int ks.length) H):wpAny (model X.prog X.w) X.A (call (.builtin "len") m) (λu x=>∃v H',Inv X k l H' x/\RelV v u/\Q v H') X.xe s:=by
 obtain⟨u,rfl,B⟩:=ki rs;cases B;cases t with
 | false =>
  obtain⟨c,d,C,L⟩:=h;obtain⟨z,y,ws,hk,o,es,D,f,g,i,p,r,M⟩:=(I.hok a _ d);have j:ks.length=c.length:=by grind
  have E:es.size=ks.length:=by rw[j,pM hk,<-r.length,da]
  exact BD y f g i E (G5 (by grind)) ⟨.int ks.length,H,I.tok _,⟨_,rfl⟩,q⟩
 | true =>
  obtain⟨J,d,_,C,_⟩:=h;obtain⟨z,y,o,es,D,f,g,i,p,r⟩:=(I.hok a _ d);have j:ks.length=J.length:=by grind
  exact BD y f g i (by rw[<-da,p,aD,j]) (G5 (by grind)) ⟨.int ks.length,H,I.tok _,⟨_,rfl⟩,q⟩
def Je:I0 X (.builtin "len") gA:=by
 rintro g s σ H xs us Q I rs ⟨aa,ab,F,st,j,ps,p,e,R,bs,k⟩
 unfold gA at e;split at e
 ·obtain⟨i,rfl⟩:=aU e;obtain⟨v,rfl,b⟩:=eE bs;rw[di.mp b]at rs;exact yS g s σ H _ us Q I rs ⟨_,rfl,gi i,k _ H F R (Gr.refl F) (aN.mpr rfl)⟩
 ·obtain⟨n,e1,rfl⟩:=bE e;obtain⟨v,rfl,b⟩:=eE bs;unfold lnO at e1;split at e1
  ·rename_i z;cases e1;obtain⟨a,d,rfl,c,f⟩:=R.at z b;exact nQ g s σ H _ us Q I rs ⟨a,d,rfl,.inr c.2,k _ H F R (Gr.refl F) (aN.mpr (by rw[f.length]))⟩
  ·rename_i z;cases e1;obtain⟨a,d,rfl,c,f⟩:=R.at z b;exact nQ g s σ H _ us Q I rs ⟨a,d,rfl,.inl (lF.sq c),k _ H F R (Gr.refl F) (aN.mpr (by rw[f.length]))⟩
  ·rename_i z;cases e1;obtain⟨a,d,rfl,c,f⟩:=R.at z b;exact Rz I rs c (k _ H F R (Gr.refl F) (aN.mpr rfl))
  ·cases e1
 ·cases e
def Jf:I0 X (.type "tuple") Ja:=by
 rintro f s σ H xs us Q I rs ⟨aa,ab,F,st,l,ps,p,e,R,bs,k⟩
 unfold Ja at e;split at e
 ·cases e;obtain⟨v,rfl,b⟩:=eE bs;obtain⟨a,c,rfl,d,g⟩:=c5.mp b;exact mh f s σ H _ us Q I rs ⟨a,c,rfl,.inr ⟨bQ R.sub d,k _ H F R (Gr.refl F) b⟩⟩
 ·obtain⟨m,e1,rfl⟩:=bE e;obtain⟨v,rfl,b⟩:=eE bs;obtain⟨a,c,rfl,d,g⟩:=R.at (ik e1) b;refine mh f s σ H _ us Q I rs ⟨a,c,rfl,.inl ⟨lF.sq d,λq j=>?_⟩⟩
  obtain⟨R2,i⟩:=R.laid (.aq c) j;exact k _ _ _ R2 i (c5.mpr ⟨q,_,rfl,jx.of aK,g.mono i⟩)
 ·cases e
def Jg:I0 X (.type "int") Jb:=by
 rintro c s σ H xs us Q I rs ⟨aa,ab,F,st,d,ps,p,e,R,bs,k⟩
 unfold Jb at e;split at e
 ·cases e;obtain⟨v,rfl,b⟩:=eE bs;rw[aN.mp b]at rs;exact wU c s σ H _ us Q I rs (.inl ⟨_,rfl,k _ H F R (Gr.refl F) (aN.mpr rfl)⟩)
 ·cases e;obtain⟨v,rfl,b⟩:=eE bs;rw[cx.mp b]at rs;exact wU c s σ H _ us Q I rs (.inr ⟨_,rfl,k _ H F R (Gr.refl F) (aN.mpr rfl)⟩)
 ·cases e
def Jh:I0 X (.type "str") Jc:=by
 rintro c s σ H xs us Q I rs ⟨aa,ab,F,st,d,ps,p,e,R,bs,k⟩
 unfold Jc at e;split at e
 ·rename_i i;obtain⟨⟨f,g⟩,rfl⟩:=aU e;obtain⟨v,rfl,b⟩:=eE bs;rw[aN.mp b]at rs;exact yN c s σ H _ us Q I rs ⟨i,rfl,(by
   by_cases h:i.natAbs=0
   ·simp_all
   ·exact jf (Nat.log2_le_self _) (by lia)),k _ H F R (Gr.refl F) (di.mpr rfl)⟩
 ·cases e
theorem oj{K:W.Frag}{F:Fz}:∀{ps:List PV} {ns:List Int} {vs:List V},mn ps=some ns->aI K F ps vs->vs=ns.map V.int
 | [],ns,vs,h,b=>by cases h;exact b.c6
 | p::r,ns,vs,h,b=>by
  obtain⟨i,j,f,g,rfl⟩:=gG h;obtain⟨v,k,rfl,c,d⟩:=b.cD;rw[gH f]at c;rw[aN.mp c,oj g d];rfl
def RA{d:List (Addr×Obj)}{f:St}{H:Hp}{s:Shared}{F:Fz}(I:Inv X d f H s){a:Addr}{vs:List V}{ps:List PV}{c:List Int}(g:mn ps=some c)(i:lF X.K H a vs)(j:aI X.K F ps vs) :
  ∃xs:Array (Int×Tok),s.heap.IsList a (intItems xs)/\c=xs.toList.map (·.1):=by
 obtain⟨l,r,pl,_⟩:=I.list i.sq;have k:=oj g j;subst k;have hi:=mW r;obtain⟨xs,ex⟩:=hi.allInts.items;exact⟨xs,by rw[<-ex];exact pl.isList,by rw[<-hi.numsOf,<-nums_intItems,<-ex]⟩
def Ji(hc:X.A.handled=none):I0 X (.builtin "sum") Jd:=by
 rintro q s σ H c us Q I rs ⟨aa,ab,F,st,r,ps,p,e,R,bs,k⟩
 unfold Jd at e;split at e
 ·obtain⟨t,e1,e⟩:=bt e;obtain⟨d,f,rfl⟩:=bE e;obtain⟨v,rfl,b⟩:=eE bs;obtain⟨a,w,rfl,g,i⟩:=R.at (ik e1) b;obtain⟨c,j,l⟩:=RA I f g i;obtain⟨u,rfl,m⟩:=ki rs;cases m;refine sum_intListG hc j λx y o hk=>⟨.int d.sum,H,I.kept hk,⟨o,?_⟩,k _ H F R (Gr.refl F) (aN.mpr rfl)⟩
  rw[preSum_eq,yf (by simp),l]
 ·cases e
inductive Ty where
 | int | str | bool | tuple | list
noncomputable def Ty.nm:Ty->String
 | .int=>"int" | .str=>"str" | .bool=>"bool" | .tuple=>"tuple" | .list=>"list"
def aa2(h:List aE):PV->Option String
 | .cf=>some "NoneType"
 | .bl _=>some "bool"
 | .int _=>some "int"
 | .str _=>some "str"
 | p=>match cO h p with
  | some (.aq,_)=>some "tuple"
  | some (.lst,_)=>some "list"
  | _=>none
def WV(t:Ty)(y:String):Bool:=y==t.nm || (t.nm=="int"&&y=="bool")
def isV(t:Ty)(fa:Gx PV):Gx PV:=bnd fa λp=>hp λh=>(aa2 h p).map λy=>.bl (WV t y)
def rIs(K:W.Frag)(t:Ty):List V->Hp->VK->Prop:=λd H Q=>∃aa ab F c f p x y,d=[x,.ty t.nm]/\Rep K aa ab F c f H/\b6 K F p x/\aa2 c.h p=some y/\Q (.bl (WV t y)) H
def RC(t:Ty):nK X (.builtin "isinstance") (rIs X.K t):=by
 rintro l s σ H xs us Q I rs ⟨aa,ab,F,st,C,p,x,y,ex,R,b,c,q⟩
 subst ex;obtain⟨u,w,rfl,d,m⟩:=TN rs;cases m;have fin:∀f,EP X l σ Q (.bool (WV t y)) {s with toks:=f}:=λf=>⟨.bl _,H,I.tok f,rfl,q⟩
 have more:(match cO st.h p with
  | some (.aq,_)=>some "tuple"
  | some (.lst,_)=>some "list"
  | _=>none)=some y->wpAny (model X.prog X.w) X.A (call (.builtin "isinstance") [u,.type t.nm]) (EP X l σ Q) X.xe s:=λc=>by
  split at c
  ·rename_i z;cases c;obtain⟨a,r,rfl,g,v⟩:=R.at z b;cases d;obtain⟨B,_,⟨o,j,g,_⟩,_⟩:=I.tuple g.2;exact W.kia_one W.kitx_tuple I.tZ ⟨o,j,g⟩ (by cases t<;>kernel_rfl) (λz=>nomatch z) fin
  ·rename_i z;cases c;obtain⟨a,r,rfl,g,v⟩:=R.at z b;cases d;obtain⟨B,n,_,j,_⟩:=I.GZ g;exact W.kia_one W.kitx_list I.tZ ⟨_,j,rfl⟩ (by cases t<;>kernel_rfl) (λz=>nomatch z) fin
  ·cases c
 cases p with
 | cf =>
  cases c;rw[dQ.mp b]at d;cases d;exact W.kia_one W.kitx_none I.tZ True.intro (by cases t<;>kernel_rfl) (λz=>nomatch z) fin
 | bl y =>
  cases c;rw[cx.mp b]at d;cases d;exact W.kia_one W.kitx_bool I.tZ True.intro (by cases t<;>kernel_rfl) (λz=>nomatch z) fin
 | int i =>
  cases c;rw[aN.mp b]at d;obtain⟨f,rfl⟩:=d;exact W.kia_one W.kitx_int I.tZ True.intro (by cases t<;>kernel_rfl) (λz=>nomatch z) fin
 | str y =>
  cases c;rw[di.mp b]at d;obtain⟨f,rfl⟩:=d;exact W.kia_one W.kitx_str I.tZ True.intro (by cases t<;>kernel_rfl) (λz=>nomatch z) fin
 | ref n=>exact more c
 | fn x=>exact more c
 | nd k ps=>exact more c
def rD:bootBuiltins "isinstance"=some (.builtin "isinstance"):=by kernel_rfl
def om(t:Ty):bootBuiltins (Str.ofString t.nm)=some (.type t.nm):=by cases t<;>kernel_rfl
noncomputable def tys:List Ty:=[.int,.str,.bool,.tuple,.list]
def G6(x:Str):Option Ty:=tys.find? λt=>x==Str.ofString t.nm
def Mq{x:Str}{t:Ty}(h:G6 x=some t):x=Str.ofString t.nm:=by
 have:=List.find?_some h;exact bu this
def afl{x:Str}{t:Ty}(ht:G6 x=some t)(i:Gl X "isinstance")(j:X.mg "isinstance"=none)(c:Gl X x)(d:X.mg x=none)(k:PE X a (tE X aa ab fa))(f:∀es,starEach (a::es) X.env=(false,eval a X.env)::starEach es X.env) :
  PE X (.Call (.Name "isinstance" p1) [a,.Name x p2] [] pos) (tE X aa ab (isV t fa)):=by
 have l:=Mq ht;subst l;refine(nL (RC t) i j rD (jX k (jX (Ph (v:=.ty t.nm) c d (om t) rfl (by cases t<;>decide) (by cases t<;>decide)) ue rfl) (f _)) (by decide) (by decide) (f _)).imp λσ H Q ⟨F,st,R,h⟩=>?_
 refine⟨F,st,R,h.bnd λp v F1 m q g w r u=>?_⟩
 obtain⟨o,e,z⟩:=u.hp;obtain⟨y,e1,rfl⟩:=bE e;exact⟨aa,ab,F1,m,σ,p,v,y,rfl,g,r,e1,z _ q F1 g (Gr.refl _) (cx.mpr rfl)⟩
def BE(fa:Gx PV):Gx PV:=bnd fa λp=>lV ((oh p).map λi=>.int (-i))
def aa3(d:PE X a (tE X aa ab fa)):PE X (.UnaryOp .USub a pos) (tE X aa ab (BE fa)):=(Z4 V0 d).imp λσ H Q ⟨F,st,R,h⟩=>⟨F,st,R,h.bnd λp v F1 k f g l c j=>by
 obtain⟨o,e,z⟩:=j.lV;obtain⟨i,e1,rfl⟩:=bE e;rw[gH e1]at c;exact⟨i,aN.mp c,z _ f F1 g (Gr.refl _) (aN.mpr rfl)⟩⟩
end
noncomputable def BF:PV->Option bO
 | .int i=>some (.inl i)
 | .str x=>some (.inr x)
 | _=>none
def iW:Bool->PV->Option (List bO)
 | false,p=>(BF p).map λk=>[k]
 | true,.nd .aq ps=>if ps.length<1000 then c9 BF ps else none
 | true,_=>none
noncomputable def kY(k:List bO)(ks:List (List bO)):Bool:=ks.any λj=>decide (j=k)
noncomputable def g8(k:List bO):List (List bO)->List PV->Option PV
 | j::ks,p::ps=>if j=k then some p else g8 k ks ps
 | _,_=>none
noncomputable def BG(k:List bO)(q:PV):List (List bO)->List PV->List PV
 | j::ks,p::ps=>(if j=k then q else p)::BG k q ks ps
 | _,ps=>ps
def BH:BG k q [] ps=ps:=by cases ps<;>rfl
def oo(t:Bool)(k:List bO)(q:PV)(ks:List (List bO))(ps:List PV):aE:=if kY k ks=true then⟨.gU t ks,BG k q ks ps⟩else⟨.gU t (ks++[k]),ps++[q]⟩
section
variable {K:W.Frag} {F:Fz}
def uE(h:BF p=some k)(b:b6 K F p v):v=kV k:=by
 cases p<;>cases h
 ·exact aN.mp b
 ·exact di.mp b
theorem xh:∀{ps:List PV} {ks:List bO} {vs:List V},c9 BF ps=some ks->aI K F ps vs->vs=ks.map kV
 | [],_,_,h,b=>by cases h;exact b.c6
 | _::_,_,_,h,b=>by
  obtain⟨k,r,a,c,rfl⟩:=gG h;obtain⟨v,w,rfl,d,b2⟩:=b.cD;rw[uE a d,xh c b2];rfl
def kZ(h:iW false p=some k)(b:b6 K F p v):∃j,k=[j]/\v=kV j:=by
 obtain⟨j,e,rfl⟩:=bE h;exact⟨j,rfl,uE e b⟩
def oq(h:iW true p=some k)(b:b6 K F p v):∃c,v=.ref c/\jx K F.F c (k.map kV):=by
 unfold iW at h;split at h
 ·grind
 ·obtain⟨_,h⟩:=bP h;obtain⟨c,e,rfl,a,d⟩:=c5.mp b;rw[xh h d]at a;exact⟨c,rfl,a⟩
 ·cases h
theorem p8(j:bO):∀kvs:List (bO×V),kY [j] (kvs.map λy=>[y.1])=(kr kvs j).isSome
 | []=>rfl
 | (i,v)::r=>by
  have ih:=p8 j r;unfold kY at ih ⊢;rw[aH,iy,ih];by_cases h:i=j
  ·subst h;rw[nV rfl];simp
  ·rw[nW h];simp[h]
theorem zm:∀{kvs:List (bO×V)} {ps:List PV} {p:PV},g8 [j] (kvs.map λy=>[y.1]) ps=some p->aI K F ps (kvs.map (·.2))->∃v,kr kvs j=some v/\b6 K F p v
 | [],_,_,h,_=>by cases h
 | (i,v)::r,[],_,h,_=>by cases h
 | (i,v)::r,q::ps,p,h,b=>by
  obtain⟨d,w,e,c,b2⟩:=b.cD;cases e;have h:(if [i]=[j]then some q else g8 [j] (r.map λy=>[y.1]) ps)=some p:=h
  by_cases a:i=j
  ·subst a;rw[if_pos rfl]at h;cases h;exact⟨v,nV rfl,c⟩
  ·rw[if_neg (by grind)]at h
   rw[nW a];exact zm h b2
def Mr(a:b6 K F q v)(b:aI K F ps (kvs.map (·.2))) :
  ∃c d,oo false [j] q (kvs.map λy=>[y.1]) ps=⟨.gU false c,d⟩/\(putK kvs j v).map (λy=>[y.1])=c/\aI K F d ((putK kvs j v).map (·.2)):=by
 unfold oo putK;rw[p8,uk];cases e:(kr kvs j).isSome with
 | false=>exact⟨_,_,rfl,by simp,by simpa using b.append (.cons a .nil)⟩
 | true =>
  refine⟨_,_,rfl,?_,?_⟩
  ·rw[if_pos rfl,bY];exact yi λy _=>by grind
  ·rw[if_pos rfl];clear e;induction kvs generalizing ps with
   | nil=>rw[pO,BH];exact b
   | cons y r ih =>
    cases ps with
    | nil=>have:=b.length;simp at this
    | cons p ps =>
     obtain⟨i,w,e,g,b2⟩:=b.cD;simp only[aH,Ef]at e;obtain⟨rfl,rfl⟩:=e;have ih:=ih b2;by_cases f:y.1=j
     ·simpa only[aH,BG,f,jl]using aI.cons a ih
     ·have:¬ [y.1]=[j]:=by grind
      simpa only[aH,BG,f,this,jR]using aI.cons g ih
def EU(k:List bO)(xs:List (List bO×Addr×Value)):kY k (xs.map (·.1))=(atKey xs k).isSome:=(IX xs k).symm
theorem G7:∀{xs:List (List bO×Addr×Value)} {ps:List PV} {vs:List V} {p:PV},g8 k (xs.map (·.1)) ps=some p->aI K F ps vs->Vals vs (xs.map (·.2.2))->∃a r v,atKey xs k=some (a,r)/\RelV v r/\b6 K F p v
 | [],_,_,_,h,_,_=>by cases h
 | x::r,[],_,_,h,_,_=>by cases h
 | x::r,q::ps,vs,p,h,b,e=>by
  obtain⟨f,w,rfl,g,b2⟩:=b.cD;cases e with
  | cons i j =>
   have h:(if x.1=k then some q else g8 k (r.map (·.1)) ps)=some p:=h
   by_cases c:x.1=k
   ·rw[if_pos c]at h;cases h;exact⟨x.2.1,x.2.2,f,by simp[atKey,c],i,g⟩
   ·rw[if_neg c]at h;obtain⟨a,l,v,d,m,o⟩:=G7 h b2 j;exact⟨a,l,v,by unfold atKey at d ⊢;rw[tD,iu c];exact d,m,o⟩
def WX(l:b6 K F q v)(m:RelV v r)(hc:jx K F.F c (k.map kV))(hk:gT K F.F xs)(b:aI K F ps vs)(f:Vals vs (xs.map (·.2.2))) :
  ∃o t d,oo true k q (xs.map (·.1)) ps=⟨.gU true o,t⟩/\(storedH xs k c r).map (·.1)=o/\gT K F.F (storedH xs k c r)/\aI K F t d/\Vals d ((storedH xs k c r).map (·.2.2)):=by
 unfold oo storedH;rw[EU];cases e:(atKey xs k).isSome with
 | false =>
  refine⟨_,_,vs++[v],rfl,by simp,λx a=>?_,b.append (.cons l .nil),by simpa using f.append (.cons m .nil)⟩
  simp only[tf,jR,bB,aG]at a;rcases a with a | rfl
  ·exact hk x a
  ·exact hc
 | true =>
  simp only[jl];have u:(xs.map (putAt k r)).map (·.1)=xs.map (·.1):=by
   rw[bY];exact yi λy _=>by simp only[Function.comp,putAt];split<;>rfl
  have g:gT K F.F (xs.map (putAt k r)):=λx a=>by
   obtain⟨y,B,rfl⟩:=az.mp a;have:=hk y B;unfold putAt;split<;>exact this
  suffices h:∃d,aI K F (BG k q (xs.map (·.1)) ps) d/\Vals d ((xs.map (putAt k r)).map (·.2.2)) by
   obtain⟨d,i,j⟩:=h;exact⟨_,_,d,rfl,u,g,i,j⟩
  clear e hk u g;induction xs generalizing ps vs with
  | nil=>exact⟨vs,by rw[pO,BH];exact b,f⟩
  | cons x xs ih =>
   cases ps with
   | nil=>rw[b.c6]at f;cases f
   | cons p ps =>
    obtain⟨C,w,rfl,D,b2⟩:=b.cD;cases f with
    | cons E H =>
     obtain⟨d,i,j⟩:=ih b2 H;by_cases a:x.1=k
     ·exact⟨v::d,by simpa only[aH,BG,a,jl]using aI.cons l i,by simpa only[aH,putAt,a,jl]using Paired.cons m j⟩
     ·exact⟨C::d,by simpa only[aH,BG,a,jR]using aI.cons D i,by simpa only[aH,putAt,a,jR]using Paired.cons E j⟩
end
def bf:G2:=λh p q=>match p with
 | .str z=>(oh q).bind λi=>if z.length<=gF then(mX z.cps.toList i).map λc=>.str ⟨#[c]⟩else none
 | p=>match cO h p with
  | some (.aq,ps)=>(oh q).bind (mX ps)
  | some (.lst,ps)=>(oh q).bind (mX ps)
  | some (.gU t ks,ps)=>(iW t q).bind λk=>g8 k ks ps
  | _=>none
section
variable {X:Cx} {aa:Hp} {ab:Fz} {a b e:Expr} {fa fb:Gx PV} {pos:Pos}
def ixT(hu:X.A.units+1150<cLine):Zd X (rT X.K bf):=by
 rintro value slice E s σ H x y v u Q I B f ⟨aa,ab,F,st,τ,pa,Y,p,e,R,J,g,k⟩ C
 have more:(match cO st.h pa with
  | some (.aq,ps)=>(oh Y).bind (mX ps)
  | some (.lst,ps)=>(oh Y).bind (mX ps)
  | some (.gU t ks,ps)=>(iW t Y).bind λk=>g8 k ks ps
  | _=>none)=some p->wpAny (model X.prog X.w) X.A (subscriptTail value slice v u) (EP X E σ Q) X.xe s:=λe=>by
  split at e
  ·rename_i z;obtain⟨i,e1,d⟩:=bt e;rw[gH e1]at g;rw[aN.mp g]at f;obtain⟨a,L,rfl,m,q⟩:=R.at z J;obtain⟨w,hw,l⟩:=q.mX d;exact Wc value slice E s σ H _ _ v u Q I B f ⟨a,L,_,w,rfl,rfl,m.2,hw,k _ H F R (Gr.refl F) l⟩ C
  ·rename_i z;obtain⟨i,e1,d⟩:=bt e;rw[gH e1]at g;rw[aN.mp g]at f;obtain⟨a,L,rfl,m,q⟩:=R.at z J;obtain⟨w,hw,l⟩:=q.mX d;exact P4 value slice E s σ H _ _ v u Q I B f ⟨a,L,_,w,rfl,rfl,lF.sq m,hw,k _ H F R (Gr.refl F) l⟩ C
  ·rename_i t ks ps z;obtain⟨kk,e1,d⟩:=bt e;obtain⟨a,L,rfl,m,q⟩:=R.at z J;cases B;cases t with
   | false =>
    obtain⟨kvs,M,N,Z⟩:=m;obtain⟨j,rfl,rfl⟩:=kZ e1 g;subst N Z;obtain⟨w,hw,l⟩:=zm d q;obtain⟨_,hd,us,Jj,T⟩:=GW I.hok (.inl M);have hr:=Jj.val j;rw[hw]at hr;cases hv:valueAt us j with
    | none=>rw[hv]at hr;exact hr.elim
    | some u' =>
     rw[hv]at hr;exact tail_any T.typeIs PySem.F.slot_dict_getitem.lookup (wpAny_getItem_of (um f) T.mapOf hv ⟨w,H,I.tok _,hr,k _ H F R (Gr.refl F) l⟩) C
   | true =>
    obtain⟨xs,M,N,Z,g4⟩:=m;obtain⟨c,rfl,hc⟩:=oq e1 g;cases f;subst Z;obtain⟨ad,r,w,hw,Wb,l⟩:=G7 d q g4;obtain⟨_,hd,T⟩:=Bs I (.inl M) (λz D=>bQ R.sub (N z D))
    obtain⟨o,_,_,ho,hx,_⟩:=id T;refine tail_any ⟨o,ho,hx.1⟩ PySem.F.slot_dict_getitem.lookup (aax (by lia) I (.inl M) (λz D=>bQ R.sub (N z D)) (bQ R.sub hc) hw λs' I'=>⟨w,H,I',Wb,k _ H F R (Gr.refl F) l⟩) C
  ·cases e
 cases pa with
 | str z =>
  obtain⟨i,e1,d⟩:=bt e;rw[gH e1]at g;obtain⟨D,d⟩:=bP d;obtain⟨c,e3,rfl⟩:=bE d;rw[di.mp J]at B;rw[aN.mp g]at f;exact Wd value slice E s σ H _ _ v u Q I B f ⟨z,i,c,rfl,rfl,gi D,e3,k _ H F R (Gr.refl F) (di.mpr rfl)⟩ C
 | cf=>exact more e
 | bl _=>exact more e
 | int _=>exact more e
 | ref _=>exact more e
 | fn _=>exact more e
 | nd _ _=>exact more e
def afm(c:X.A.units+1150<cLine)(d:PE X a (tE X aa ab fa))(f:PE X b (tE X aa ab fb))(g:rR b):PE X (.Subscript a b pos) (tE X aa ab (op2 bf fa fb)):=(TV (ixT c) d f g).imp λ_ _ _ h=>rY h
def ku(n:Bool):G2:=λh p q=>match cO h q with
 | some (.gU t ks,_)=>(iW t p).map λk=>.bl (if n=true then !kY k ks else kY k ks)
 | _=>(ES h q).bind λc=>(Mm h p c).map λb=>.bl (if n=true then !b else b)
def WY(w:X.A.units+1150<cLine):y0 X (compareOp .In) (ku false):=by
 rintro L s σ H x y v u Q I d m ⟨aa,ab,F,st,M,N,T,p,e,R,f,o,k⟩
 unfold ku at e;split at e
 ·rename_i t ks ps z;obtain⟨Y,e1,rfl⟩:=bE e;obtain⟨a,Z,rfl,q,j4⟩:=R.at z o;cases m;cases t with
  | false =>
   obtain⟨g,i,l,r⟩:=q;obtain⟨j,rfl,rfl⟩:=kZ e1 f;obtain⟨_,hd,us,B,C⟩:=GW I.hok (.inl i);refine wpAny_in_of (um d) hd C.mapOf ⟨.bl (kr g j).isSome,H,I.tok _,?_,k _ H F R (Gr.refl F) (cx.mpr ?_)⟩
   ·rw[(B.val j).w9];rfl
   ·rw[<-l,p8];rfl
  | true =>
   obtain⟨xs,i,l,r,g4⟩:=q;obtain⟨c,rfl,hc⟩:=oq e1 f;cases d;exact aav (by lia) I (.inl i) (λz D=>bQ R.sub (l z D)) (bQ R.sub hc) λs' E=>⟨.bl _,H,E,rfl,k _ H F R (Gr.refl F) (cx.mpr (by rw[<-r,EU];rfl))⟩
 ·obtain⟨qs,e1,e⟩:=bt e;obtain⟨b,J,rfl⟩:=bE e;exact(Mo w I d m R f o e1 J).1 (k _ H F R (Gr.refl F) (cx.mpr rfl))
def Jk(w:X.A.units+1150<cLine):y0 X (compareOp .NotIn) (ku true):=by
 rintro L s σ H x y v u Q I d m ⟨aa,ab,F,st,M,N,T,p,e,R,f,o,k⟩
 unfold ku at e;split at e
 ·rename_i t ks ps z;obtain⟨Y,e1,rfl⟩:=bE e;obtain⟨a,Z,rfl,q,j4⟩:=R.at z o;cases m;cases t with
  | false =>
   obtain⟨g,i,l,r⟩:=q;obtain⟨j,rfl,rfl⟩:=kZ e1 f;obtain⟨_,hd,us,B,C⟩:=GW I.hok (.inl i);refine wpAny_notIn_of (um d) hd C.mapOf ⟨.bl (!(kr g j).isSome),H,I.tok _,?_,k _ H F R (Gr.refl F) (cx.mpr ?_)⟩
   ·rw[(B.val j).w9];rfl
   ·rw[<-l,p8];rfl
  | true =>
   obtain⟨xs,i,l,r,g4⟩:=q;obtain⟨c,rfl,hc⟩:=oq e1 f;cases d;exact aaw (by lia) I (.inl i) (λz D=>bQ R.sub (l z D)) (bQ R.sub hc) λs' E=>⟨.bl _,H,E,rfl,k _ H F R (Gr.refl F) (cx.mpr (by rw[<-r,EU];rfl))⟩
 ·obtain⟨qs,e1,e⟩:=bt e;obtain⟨b,J,rfl⟩:=bE e;exact(Mo w I d m R f o e1 J).2 (k _ H F R (Gr.refl F) (cx.mpr rfl))
end
def EV:CmpOp->Option G2
 | .Eq=>some jG
 | .NotEq=>some KA
 | .Lt=>some Mh
 | .LtE=>some leO
 | .GtE=>some Zi
 | .Is=>some Zj
 | .In=>some (ku false)
 | .NotIn=>some (ku true)
 | _=>none
def lK(a:X.A.units+1150<cLine)(h:EV op=some g):y0 X (compareOp op) g:=by
 have b:∀i j:Int,(λ_ _=>true) i j=true->(λ_ _=>True) i j:=by grind
 cases op<;>cases h
 ·exact WO a
 ·exact WQ a
 ·exact hJ (BB Z5) b λ_ _ _=>cx.mpr rfl
 ·exact hJ (BB Z6) b λ_ _ _=>cx.mpr rfl
 ·exact hJ (BB Z7) b λ_ _ _=>cx.mpr rfl
 ·exact WR
 ·exact WY a
 ·exact Jk a
end L2.U
namespace L2
open PySem PySem.Spec PyProof.Rows
section
variable {X:Cx}
def Ms:PE X (.Dict [] [] pos) (T4 (.dK [])):=λa s b H Q I h =>
 wpAny_Dict_empty ⟨.ref s.heap.objs.size,_,I.laid (o:=.dK []) (λ_ _ q=>bA _ q) (au _)
  ⟨dE _,kC.mpr (ee (bL (uo I))),[],.nil,Heap.DictOf.new s.heap⟩,rfl,h _ (I.hok.fresh (au _))⟩
def aa4:V->List V->Hp->VK->Prop:=λx c H Q=>∃a b k y,x=.ref a/\c=[kV k,y]/\H a=some (.dK b)/\b.length<sizeLine/\(∀v,kr b k=some v->Q v H)/\(kr b k=none->Q y (dj H a (.dK (b++[(k,y)]))))
def WZ:MtR X "dict.setdefault" aa4:=by
 intro N s R H x T v Y Q I m p h;obtain⟨a,b,k,y,rfl,rfl,e,r,t,u⟩:=h;cases m;obtain⟨Z,B,rfl,C,g⟩:=p.two;obtain⟨z,hd,D,f,i⟩:=T3 I.hok e;refine call_meetsIn KY i.typeIs PySem.F.entry_dict_setdefault (PySem.F.args_dict_setdefault_3 _ _ _) (kt_meets_setdefault (ez X.prog X.w) a (um C) hd B) ⟨D,i,by rw[<-f.length];exact z,λw hw=>?_,λE J j L=>?_⟩
 ·have rk:=f.val k;rw[hw]at rk;cases d:kr b k with
  | none=>rw[d]at rk;exact rk.elim
  | some v0=>rw[d]at rk;exact⟨v0,H,I.tok _,rk,t v0 d⟩
 ·have rk:=f.val k;rw[E]at rk;have d:kr b k=none:=by
   cases d:kr b k with
   | none=>rfl
   | some v0=>rw[d]at rk;exact rk.elim
  have l:=f.put k g;rw[Mb y d]at l;have he:∃q,J.get? a=some q:=let ⟨q,_,_,M,_⟩:=j;⟨q,M⟩
  exact⟨y,_,I.write (o:=.dK (b++[(k,y)])) (by rw[e];exact True.intro) (.inl rfl) (λc q' hc z=>(L.2 c hc).trans z) he ⟨by rw[bK];exact r,hd,_,l,j⟩,g,u d⟩
def G8:V->List V->Hp->VK->Prop:=λx a H Q=>∃(l:Addr) (xs:List V) (i:Int) (y:V),x=.ref l/\a=[.int i,y]/\H l=some (.lst xs)/\xs.length<sizeLine/\0<=i/\i<=1000000/\Q .cf (dj H l (.lst (xs.take i.toNat++y::xs.drop i.toNat)))
def W0(c:0<=i)(d:i<=1000000):¬(!Builtin.List.listFitsIndex i)=true:=by
 unfold Builtin.List.listFitsIndex;have a:decide (-(2^63:Int)<=i)=true:=by grind
 have b:decide (i<2^63)=true:=by grind
 rw[a,b];simp
noncomputable def aa5(i:Int)(u:Value):Array Value->Array Value:=λa=>have k:=if i<0 then(i+((a.size:Nat):Int)).toNat else min i.toNat a.size;(a.extract 0 k).push u++a.extract k
def RF(e:0<=i)(a:List Value)(u:Value):aa5 i u a.toArray=(a.take i.toNat++u::a.drop i.toNat).toArray:=by
 unfold aa5;have b:¬i<0:=by lia
 simp only[b,fK];apply Array.ext';simp only[List.extract_eq_drop_take];by_cases c:i.toNat<=a.length
 ·rw[Nat.min_eq_left c];have d:List.take (a.length-i.toNat) (List.drop i.toNat a)=List.drop i.toNat a:=yf (by grind)
  simp[d]
 ·grind
def Jl:MtM X "list.insert" G8:=by
 intro m s o H x p v u Q I f g h;obtain⟨l,w,i,y,rfl,rfl,a,B,b,j,q⟩:=h;cases f;obtain⟨C,c,rfl,⟨t,rfl⟩,k⟩:=g.two;obtain⟨z,d,n,r,D,e⟩:=I.iB a;have E:=r.length;have J:=I.P6 (t':=s.toks) a e (RF b d c) ((r.take i.toNat).append (.cons k (r.drop i.toNat))) (by grind)
 exact mT F.slot_list_insert ⟨_,e,rfl⟩ F.entry_list_insert (F.args_list_insert_3 _ _ _) (@PySem.AutoListH.list_insert_list_int_val_1 l d.toArray n i t c (W0 b j) (by grind)) ⟨e,.cf,_,J,rfl,q⟩
def W2(K:W.Frag):V->List V->Hp->VK->Prop:=λx d H Q=>∃l b c a,x=.ref l/\d=[.ref b]/\H l=some (.lst c)/\(jx K H b a\/lF K H b a)/\c.length+a.length<=sizeLine/\Q .cf (dj H l (.lst (c++a)))
def zq(l:Addr)(a:Array Value)(n:Nat)(b:Addr)(more:Array Value)(e:Nat)(f:Option Addr)(i:Array (Option Value))(m:¬(!a.isEmpty&&Builtin.List.listTooLong (a.size+more.size))=true)(h1:a.size<=sizeLine)(j:a.size+more.size<=sizeLine+1) :
  Meets (Builtin.«list.extend» ⟨[.ref l,.ref b],[]⟩) (λ_ R s=>s.heap.get? l=some {cls:=.type "list",dict:=none,data:=.seq a n,slots:=#[]}/\s.heap.get? b=some {cls:=.type "tuple",dict:=f,data:=.seq more e,slots:=i} /\
   R (.ok (.ret Value.none)) {s with heap:=s.heap.update l (Obj.mapSeq λx=>x++more),toks:=s.toks}) :=
 .of_wp λprog w A R s h=>by
  obtain⟨hp,g,d,o,p⟩:=s;obtain⟨c,k,h⟩:=h;have q:=AutoSeq1.idx_int;have r:=AutoSeq1.sub_tuple_tuple;have t:=AutoSeq1.sub_list_list;have u:=AutoSeq1.sub_tuple_list;have v:=AutoSeq1.sub_list_tuple
  wp_walk using (wpAny_updateSeq c rfl (_hz':=(by rw[Array.size_append];exact j))),kA c,kA k
  exact⟨_,rfl,h⟩
def W3:MtM X "list.extend" (W2 X.K):=by
 intro w s y H x R v T Q I B C h;obtain⟨l,b,Y,D,rfl,rfl,t,f,Z,q⟩:=h;cases B;obtain⟨u,rfl,E⟩:=C.one;cases E;obtain⟨z,c,n,r,hl,e⟩:=I.iB t;have go:∀a,Vals D a->(¬(!c.toArray.isEmpty&&Builtin.List.listTooLong (c.toArray.size+a.toArray.size))=true/\c.toArray.size<=sizeLine/\c.toArray.size+a.toArray.size<=sizeLine+1) /\
   EP X w y Q Value.none {s with heap:=s.heap.update l (Obj.mapSeq λx=>x++a.toArray),toks:=s.toks}:=λa d=>by
  have Mj:=d.length;have g:c.toArray.size+a.toArray.size<=sizeLine:=by grind
  refine⟨⟨?_,by grind,(fj ‹_›)⟩,.cf,_,I.P6 t e (by simp) (r.append d) (by grind),rfl,q⟩
  rw[LY g,Bool.and_false];exact bX
 rcases f with f | f
 ·obtain⟨a,d,⟨⟨J,L,M,N⟩,i,hc,j,hd⟩,_⟩:=I.tuple f;simp only at hc hd;subst hc hd;obtain⟨⟨k,m,o⟩,p⟩:=go a d;exact mT F.slot_list_extend ⟨_,e,rfl⟩ F.entry_list_extend (F.args_list_extend_2 _ _) (zq l c.toArray n b a.toArray j L N k m o) ⟨e,i,p⟩
 ·obtain⟨a,j,d,i,_⟩:=I.GZ f;obtain⟨⟨k,m,o⟩,p⟩:=go a d;exact mT F.slot_list_extend ⟨_,e,rfl⟩ F.entry_list_extend (F.args_list_extend_2 _ _) (AutoSeq1.list_extend_list_list_0 l c.toArray n b a.toArray j k m o) ⟨e,i,p⟩
def G9(kvs:List (bO×V))(k:bO)(v:V):(putK kvs k v).length<=kvs.length+1:=by
 unfold putK;split
 ·grind
 ·grind
def aa6:Lv:=λo i v H Q=>∃a b k,o=.ref a/\i=kV k/\H a=some (.dK b)/\b.length<sizeLine/\Q (dj H a (.dK (putK b k v)))
def W4:Lw X aa6:=by
 rintro x s σ H o i v y B u Q I g j l ⟨a,b,k,ex,m,e1,C,q⟩
 subst ex m;cases g;obtain⟨z,hd,D,e,p⟩:=T3 I.hok e1;refine wpAny_setItem_pairs (um j) p (λr f d=>?_) (by rw[<-e.length];exact z)
 have t:=e.put k l;have he:∃q,r.get? a=some q:=let ⟨q,_,_,w,_⟩:=f;⟨q,w⟩
 exact⟨_,I.write (o:=.dK (putK b k v)) (by rw[e1];exact True.intro) (.inl rfl) (λc E hc z=>(d.2 c hc).trans z) he ⟨by have:=G9 b k v;lia,hd,_,t,f⟩,q⟩
def aa8(K:W.Frag):Lv:=λo i v H Q=>∃a b c k,o=.ref a/\i=.ref b/\H a=some (.dT c)/\gT K H c/\jx K H b (k.map kV)/\c.length<sizeLine/\∀r,RelV v r->Q (dj H a (.dT (storedH c k b r)))
def W5(c:X.A.units+1<cLine):Lw X (aa8 X.K):=by
 rintro r s σ H o i v t w u Q I d e f ⟨a,b,xs,k,ex,g,e1,j,l,m,q⟩
 subst ex g;cases d;cases e;exact Wq c I e1 j l m λx p=>⟨_,p,q u f⟩
end
end L2
namespace L2.U
open PySem PySem.Spec PyProof.Rows
abbrev MG:=aE->List PV->Option (aE×PV)
def zu(h:List aE):PV->Option (Nat×aE)
 | .ref n=>(h[n]?).bind λc=>if live c=true then some (n,c)else none
 | _=>none
def lL(e:zu h p=some (n,c)):p=.ref n/\h[n]?=some c/\live c=true:=by
 cases p with
 | ref m =>
  obtain⟨d,e1,a⟩:=bt e;obtain⟨b,f⟩:=aU a;cases f;exact⟨rfl,e1,b⟩
 | _=>cases e
def k0(g:MG)(p:PV)(as:List PV):Gx PV:=λa=>(zu a.h p).bind λc=>(g c.2 as).map λr=>(.ok r.2,⟨a.ρ,a.h.set c.1 r.1⟩)
section
variable {X:Cx} {aa H:Hp} {ab F:Fz} {st:dB} {σ:St}
def EW(K:W.Frag)(r:V->List V->Hp->VK->Prop)(g:MG):Prop:=∀(aa H:Hp) (ab F:Fz) (st:dB) (σ:St) (n:Nat) (c d:aE) (a:Addr) (as:List PV) (ws:List V) (q:PV) (Q:VK),
 Rep K aa ab F st σ H->st.h[n]?=some c->live c=true->F.μ[n]?=some a->g c as=some (d,q)->aI K F as ws->(∀v b e,Rep K aa ab b ⟨st.ρ,st.h.set n d⟩ σ e->Gr F b->b6 K b q v->Q v e)->r (.ref a) ws H Q
def Rep.put(R:Rep X.K aa ab F st σ H){c d:aE}(hc:st.h[n]?=some c)(b:live c=true)(e:F.μ[n]?=some a)(f:q9 X.K F.F (dj H a o) a true d.k vs)(g:aI X.K F d.ps vs) :
  Rep X.K aa ab F ⟨st.ρ,st.h.set n d⟩ σ (dj H a o):=⟨R.c.write hc b e f g,R.l⟩
noncomputable def iB(f:List PV->List PV->Option (List PV)):MG:=λc as=>match c.k with
 | .lst=>(f c.ps as).map λa=>(⟨.lst,a⟩,.cf)
 | _=>none
def zw
  (h:∀(H:Hp) (F:Fz) (ps as b:List PV) (vs ws:List V) (a:Addr) (Q:VK) (h:List aE),cX F.F H->f ps as=some b->H a=some (.lst vs)->aI X.K F ps vs->aI X.K F as ws->(∀e,aI X.K F b e->Q .cf (dj H a (.lst e)))->r (.ref a) ws H Q):EW X.K r (iB f):=by
 intro aa H ab F st σ n c t a as ws q Q R hc g i d l k;unfold iB at d;split at d
 ·rename_i hk;obtain⟨b,e1,m⟩:=bE d;cases m;obtain⟨_,vs,j,o⟩:=R.c.cell n c a hc i g;rw[hk]at j;exact h H F c.ps as b vs ws a Q st.h R.sub e1 j o l λe p=>k _ F _ (R.put hc g i aK p) (Gr.refl _) (dQ.mpr rfl)
 ·cases d
def wa:List PV->List PV->Option (List PV):=λps as=>match as with | [p]=>if ps.length<gF then some (ps++[p])else none | _=>none
def RG:EW X.K GS (iB wa):=zw λH F ps as j f ws a Q h l c g d e k=>by
 unfold wa at c;split at c
 ·obtain⟨i,rfl⟩:=aU c;obtain⟨v,rfl,b⟩:=eE e;exact⟨a,f,v,rfl,rfl,g,by rw[<-d.length];exact b8 i (gi (au _)),k _ (d.append e)⟩
 ·cases c
def RH:List PV->List PV->Option (List PV):=λps as=>match as with | []=>some ps.reverse | _=>none
def RI:EW X.K Bg (iB RH):=zw λH F ps as g c ws a Q h i b d e f k=>by
 unfold RH at b;split at b
 ·cases b;exact⟨a,c,rfl,f.c6,d,k _ e.reverse⟩
 ·cases b
def Mt:List PV->List PV->Option (List PV):=λps as=>match as with
 | [.int i,p]=>if(0<=i/\i<=1000000/\ps.length<gF)then some (ps.take i.toNat++p::ps.drop i.toNat)else none
 | _=>none
def RJ:EW X.K G8 (iB Mt):=zw λH F ps as o d ws a Q h p b e c f k=>by
 unfold Mt at b;split at b
 ·obtain⟨⟨g,i,j⟩,rfl⟩:=aU b;obtain⟨q,l,rfl,m,b2⟩:=rZ f;rw[aN.mp m];exact⟨a,d,_,l,rfl,rfl,e,b8 (by rw[<-c.length];exact j) (gi (au _)),g,i,k _ ((c.take _).append (.cons b2 (c.drop _)))⟩
 ·cases b
def wb(p:PV)(as:List PV):Gx PV:=λst=>match as with
 | [q]=>(ES st.h q).bind λrs=>k0 (iB λps _=>if ps.length+rs.length<=gF then some (ps++rs)else none) p [] st
 | _=>none
def Jm:MG:=λc as=>match c.k,as with
 | .gU false ks,[a,y]=>(iW false a).bind λk=>if ks.length<gF then(if kY k ks=true then(g8 k ks c.ps).map λp=>(c,p)else some (⟨.gU false (ks++[k]),c.ps++[y]⟩,y))else none
 | _,_=>none
def RK:EW X.K aa4 Jm:=by
 intro aa H ab F st σ n c M a as ws q Q R hc u w g B k;unfold Jm at g;split at g
 ·rename_i ks N y hk;obtain⟨T,e1,d⟩:=bt g;obtain⟨Y,d⟩:=bP d;obtain⟨Z,l,rfl,C,b2⟩:=rZ B;obtain⟨j,rfl,rfl⟩:=kZ e1 C;obtain⟨_,vs,o,r⟩:=R.c.cell n c a hc w u;have D:=o;rw[hk]at o;obtain⟨b,E,t,I⟩:=o;rw[<-I]at r;refine⟨a,b,j,l,rfl,rfl,E,(by
   have:ks.length=b.length:=by grind
   exact b8 (by grind) (gi (au _))),λv m=>?_,λm=>?_⟩
  ·rw[if_pos (by rw[<-t,p8,m];rfl)]at d
   obtain⟨p,x,J⟩:=bE d;cases J;rw[<-t]at x;obtain⟨v',f,L⟩:=zm x r;rw[m]at f;cases f;have e:st.h.set n c=st.h:=by
    apply List.ext_getElem?;intro i;by_cases hi:n=i
    ·grind
    ·grind
   rw[e]at k;exact k v F H R (Gr.refl _) L
  ·rw[if_neg (by rw[<-t,p8,m];simp)]at d
   cases d;refine k l F _ (R.put (vs:=b.map (·.2)++[l]) hc u w ⟨b++[(j,l)],aK,by grind⟩ ?_) (Gr.refl _) b2
   exact r.append (.cons b2 .nil)
 ·cases g
def Tx.mut(b:EW X.K r g)(h:Tx X aa ab (b6 X.K) F st (k0 g p as) σ Q)(R:Rep X.K aa ab F st σ H)(d:b6 X.K F p v)(e:aI X.K F as ws):r v ws H Q:=by
 obtain⟨q,f,i⟩:=h;obtain⟨⟨n,c⟩,e1,j⟩:=bt f;obtain⟨⟨k,x⟩,l,m⟩:=bE j;subst m;obtain⟨rfl,hc,o⟩:=lL e1;obtain⟨a,t,rfl⟩:=eA.mp d;exact b aa H ab F st σ n c k a as ws x Q R hc o t l e λv u w y B C=>i v w u y B C
def Tx.ext{Q:VK}(h:Tx X aa ab (b6 X.K) F st (wb p as) σ Q)(R:Rep X.K aa ab F st σ H)(l:b6 X.K F p v)(m:aI X.K F as ws):W2 X.K v ws H Q:=by
 obtain⟨x,d,o⟩:=h;unfold wb at d;split at d
 ·rename_i q;obtain⟨rs,r,d⟩:=bt d;obtain⟨w,rfl,t⟩:=eE m;obtain⟨b,u,rfl,B,f⟩:=R.seq r t;obtain⟨⟨n,c⟩,e1,C⟩:=bt d;obtain⟨⟨M,y⟩,e,D⟩:=bE C;subst D;obtain⟨rfl,hc,g⟩:=lL e1;obtain⟨a,i,rfl⟩:=eA.mp l;unfold iB at e;split at e
  ·rename_i hk;obtain⟨N,E,I⟩:=bE e;cases I;obtain⟨J,rfl⟩:=aU E;obtain⟨_,L,j,k⟩:=R.c.cell n c a hc i g;rw[hk]at j;exact⟨a,b,L,u,rfl,rfl,j,B,by rw[<-k.length,<-f.length];exact gi J,o .cf _ F (R.put hc g i aK (k.append f)) (Gr.refl _) (dQ.mpr rfl)⟩
  ·cases e
 ·cases d
end
section
variable {prog:Program} {w:World} {A:Around} {R:Result->Shared->Prop} {s:Shared}
abbrev nb(prog:Program)(w:World)(A:Around)(a:Env)(R:Result->Shared->Prop):Value->Shared->Prop:=notedBy (model prog w) A a λe b=>R (.error e) b
noncomputable abbrev Ha(b:List Expr)(a:Env):Sem Bool:=forIn b true λc r=>if r=true then do let ok <-isTrue c a (eval c a);pure (ForInStep.yield ok)else pure (ForInStep.yield r)
def Jn(I:Nat->Shared->Prop)
  (nJ:∀n s,I n s->wpAny (model prog w) A (pyNext it) (λr s1=>match r with
   | none=>R (.ok .next) s1
   | some v=>wpAny (model prog w) A (letOwnedTupleGo d it v) (λ_ a=>wpAny (model prog w) A (assign d env v) (λ_ s2=>wpAny (model prog w) A (Ha ifs env) (λok b =>
      if ok=true then wpAny (model prog w) A (eval elt env) (λx e=>wpAny (model prog w) A (call (.builtin "list.append") [acc,x]) (λ_ f=>∃m,m<n/\I m f) (nb prog w A env R) e) (nb prog w A env R) b
      else ∃m,m<n/\I m b) (nb prog w A env R) s2) (nb prog w A env R) a) (nb prog w A env R) s1) (nb prog w A env R) s)
  (n:Nat) (h:I n s):codeAny (model prog w) A (.compLoop (.ListComp elt [⟨d,iter,ifs,0⟩] scope pos) 0 it acc env) R s:=by
 refine codeAny_loop rfl I (λn s j=>?_) n h
 refine wpAny_noted ?_;rw[compTurn_list];refine ag (wpAny_standAt (ag (thn (nJ n s j) λr s1 g=>?_)))
 cases r with
 | none=>exact ao g
 | some v =>
  refine ag (thn g λ_ a c=>ag (thn c λ_ s2 k=>ag (thn k λok b i=>?_)))
  cases ok with
  | false=>exact ao ⟨rfl,i⟩
  | true=>exact ag (ag (thn i λx e l=>ag (thn l λ_ f o=>ao (ao ⟨rfl,o⟩))))
end
noncomputable def k6(a:Env):List (Str×NameKind)->List (Str×Addr)->List (Str×Addr)
 | [],cs=>cs
 | (n,k)::r,cs=>k6 a r (if k==.free then(match a.cells.lookup n with | some c=>(n,c)::cs | none=>cs)else cs)
def uF(h:∀y∈scope.names,y.2=.free->∃c,env.cells.lookup y.1=some c):closureFor scope env=pure (k6 env scope.names []):=by
 have all:∀(l:List (Str×NameKind)) (cs:List (Str×Addr)),(∀y∈l,y.2=.free->∃c,env.cells.lookup y.1=some c) ->
   (forIn l cs λx r=>(match x with | (name,kind)=>if(kind==NameKind.free)=true then do let a <-cellOf env name;pure (ForInStep.yield ((name,a)::r))else pure (ForInStep.yield r):Sem (ForInStep (List (Str×Addr)))))=pure (k6 env l cs):=by
  intro l;induction l with
  | nil=>intro cs _;rfl
  | cons y l ih =>
   intro cs b;obtain⟨n,k⟩:=y;rw[List.forIn_cons];by_cases hk:k=.free
   ·subst hk;obtain⟨c,hc⟩:=b (n,.free) aO rfl;have e:=hc;have e1:cellOf env n=pure c:=by unfold cellOf;rw[e]
    simp only[e1,k6,e];exact ih _ λy d=>b y (aM _ d)
   ·have f:(k==NameKind.free)=false:=by simpa using hk
    simp only[f,k6];exact ih _ λy d=>b y (aM _ d)
 unfold closureFor;have:=all scope.names [] h;simp only[bind_pure]at this ⊢;exact this
theorem BI:∀(l:List (Str×NameKind)) (cs:List (Str×Addr)) (p:Str×Addr),p∈k6 env l cs->p∈cs\/env.cells.lookup p.1=some p.2
 | [],_,_,h=>.inl h
 | (n,k)::r,cs,p,h=>by
  unfold k6 at h;rcases BI r _ p h with q | q
  ·grind
  ·grind
def cu(h:(k6 env l []).lookup x=some c):env.cells.lookup x=some c:=by
 rcases BI l [] (x,c) (fq h)with q | q
 ·cases q
 ·exact q
theorem xi:∀(l:List (Str×NameKind)) (cs:List (Str×Addr)),(∃c,(x,c)∈cs)->∃c,(x,c)∈k6 env l cs
 | [],_,h=>h
 | (n,k)::r,cs,⟨c,h⟩=>by
  unfold k6;refine xi r _ ⟨c,?_⟩;split
  ·grind
  ·exact h
theorem k7:∀(l:List (Str×NameKind)) (cs:List (Str×Addr)),(x,NameKind.free)∈l->(∃c,env.cells.lookup x=some c)->∃c,(x,c)∈k6 env l cs
 | [],_,h,_=>by cases h
 | (n,k)::r,cs,h,hc=>by
  unfold k6;rcases aW.mp h with z | z
  ·cases z;obtain⟨c,e⟩:=hc;refine xi r _ ⟨c,?_⟩;simp[e]
  ·exact k7 r _ z hc
theorem jn:∀{l:List (Str×Addr)},(x,c)∈l->∃a,l.lookup x=some a
 | [],h=>by cases h
 | (n,d)::r,h=>by
  rw[kG];cases b:x==n with
  | true=>exact⟨d,rfl⟩
  | false =>
   rcases aW.mp h with z | z
   ·grind
   ·exact jn z
def cW(X:Cx)(N:List Str)(a:Scope)(C:Addr)(s:Shared)(H:Hp)(b:List Addr):Cx where
 prog:=X.prog
 w:=X.w
 K:=X.K
 mg:=X.mg
 base:=X.base
 A:=X.A
 N:=N
 s₀:=s
 aa:=H
 env:=compEnvC a (k6 X.env a.names []) C X.env
 aB:=X.stack
 stack:=X.stack
 ex:=b
 fn:=λ_=>false
 calm:=X.calm
 pn:=[]
 xe:=λ_ _=>False
theorem iE{a:Env}:∀(b:List (Str×NameKind)) (x:Str),(b.map fun(n,k)=>if(k==NameKind.free&&a.scope.kind==.function&&a.kindOf n==some .cell)then(n,NameKind.cell)else(n,k)).lookup x =
  (b.lookup x).map λk=>if(k==NameKind.free&&a.scope.kind==.function&&a.kindOf x==some .cell)then NameKind.cell else k
 | [],_=>rfl
 | (n,j)::r,x=>by
  have e:(if(j==NameKind.free&&a.scope.kind==.function&&a.kindOf n==some .cell)=true then(n,NameKind.cell)else(n,j))=(n,if(j==NameKind.free&&a.scope.kind==.function&&a.kindOf n==some .cell)=true then NameKind.cell else j):=by split<;>rfl
  show List.lookup x ((if(j==NameKind.free&&a.scope.kind==.function&&a.kindOf n==some .cell)=true then(n,NameKind.cell)else(n,j))::_)=_
  rw[e,kG,kG];cases c:x==n with
  | true =>
   have d:=bu c;subst d;rfl
  | false=>exact iE r x
def ou{b:Env}{a:List (Str×NameKind)}(h:(a.map fun(n,k)=>if(k==NameKind.free&&b.scope.kind==.function&&b.kindOf n==some .cell)then(n,NameKind.cell)else(n,k)).lookup x=some k) :
  a.lookup x=some k\/(k=.cell/\a.lookup x=some .free):=by
 rw[iE]at h;cases z:a.lookup x with
 | none=>rw[z]at h;cases h
 | some j =>
  rw[z]at h;have h:(if(j==NameKind.free&&b.scope.kind==.function&&b.kindOf x==some .cell)=true then NameKind.cell else j)=k:=by grind
  split at h
  ·grind
  ·grind
def zA{b:Env}{a:List (Str×NameKind)}(h:a.lookup x=some .free) :
  (a.map fun(n,k)=>if(k==NameKind.free&&b.scope.kind==.function&&b.kindOf n==some .cell)then(n,NameKind.cell)else(n,k)).lookup x=some .cell \/
  (a.map fun(n,k)=>if(k==NameKind.free&&b.scope.kind==.function&&b.kindOf n==some .cell)then(n,NameKind.cell)else(n,k)).lookup x=some .free:=by
 rw[iE,h];show some (if _ then _ else _)=_\/some (if _ then _ else _)=_
 split
 ·grind
 ·grind
structure jH (X:Cx) (N:List Str) (link:List (Option Nat)) (scope:Scope):Prop where
 kind:scope.kind=.function
 cell:∀y∈scope.names,y.2≠.cell
 names:∀y∈scope.names,y.2=.local->scope.names.lookup y.1=some .local
 free:∀y∈scope.names,y.2=.free->(X.env.kindOf y.1=some .cell\/X.env.kindOf y.1=some .free)
 len:link.length=N.length
 link:∀(i j:Nat) (x:Str),link[i]?=some (some j)->N[i]?=some x->X.N[j]?=some x/\scope.names.lookup x=some .free
noncomputable def g9(link:List (Option Nat))(a:St):St:=link.map λo=>o.bind λj=>(a[j]?).join
section
variable {X:Cx} {ae:List (Addr×Obj)} {σ:St} {H:Hp} {s:Shared}
def Inv.adopt(I:Inv X ae σ H s)(f:H D=none)(h1:X.s₀.heap.objs.size<=D)(g:D≠X.env.locals)(j:∀x c,X.env.cells.lookup x=some c->c≠D)(k:∀p∈X.pn++ae,p.1≠D)
  (ho:gB X.prog X.w (dj H D o) s.heap D o):Inv X ae σ (dj H D o) s:=by
 have ne:∀b u,H b=some u->b≠D:=λb u e z=>by rw[z,f]at e;cases e
 refine I.step (ch:=[D]) (λb a=>?_) (λb u _ _ _ e _=>e) (λb u _ _ _ e _=>⟨u.slots,e⟩) (λb u hc _ n=>?_) (λb u _ e=>⟨u,e⟩)
  (λb d e=>by rw[aZ (ne b _ e)];exact e) (λb u d e=>by rw[aZ (ne b _ e)];exact e) (λb ps e=>by rw[aZ (ne b _ e)];exact e) (λm l=>l) (λb u e=>?_) I.bare
 ·have e:b=D:=by simpa using a
  subst e;exact⟨.inr h1,g,j,k⟩
 ·rw[aZ (λz=>hc (by simp[z]))];exact n
 ·by_cases a:b=D
  ·subst a;rw[aK]at e;cases e;exact ho
  ·rw[aZ a]at e;exact(I.hok b u e).yH (λ_ _ _ q=>q) (λc q=>by rw[aZ (ne c _ q)];exact q) (λc d q=>by rw[aZ (ne c _ q)];exact q) λc r v q=>by rw[aZ (ne c _ q)];exact q
def EX{N:List Str}{link:List (Option Nat)}(S:jH X N link scope)(I:Inv X ae σ H s)(g:∀b∈M,yM X ae H b)
  (E:s.heap.objs.size<=C) (Y:h.Ns C λ_=>none) (hk:∀b o,s.heap.get? b=some o->h.get? b=some o) (J:∀b∈M,∃o,s.heap.get? b=some o) :
  Inv (cW X N scope C s H M) [] (g9 link σ) H {s with heap:=h,toks:=tk}:=by
 have Q:∀y∈scope.names,y.2=.free->∃c,X.env.cells.lookup y.1=some c:=λy Z t=>I.ok.has y.1 (S.free y Z t)
 have afo:∀x c,X.env.cells.lookup x=some c->c<s.heap.objs.size:=λx c e=>let ⟨v,o,ho,_⟩:=I.cell x c e;br ho
 refine⟨⟨I.ok.mod,S.kind,I.ok.glob,I.ok.blt,E,λx y c B h2=>I.ok.inj x y c (cu B) (cu h2),λx L=>?_,λx c L=>(by cases L),I.ok.hd,I.ok.frames,.inl rfl,λb k=>⟨?_,λx c e=>(g b k).2.2.2.2.1 x c (cu e)⟩,I.bs,bC I.ok.bsz I.sz,
  λb o e k=>?_,λb k z=>?_,I.stack,I.yK,I.tabs⟩,rfl,I.bare,Un.kept hk,⟨_,Y,λi x v e1 f e3=>?_⟩,λx c e=>?_,I.hok.fresh E,λx c e=>I.freeC x c (cu e),λp hp=>(by cases hp),I.hok.kept hk,by unfold g9;rw[aD];exact S.len⟩
 ·-- Tv cells are there
  have ER:=L;have t:scope.names.lookup x=some .free:=by
   rcases ER with B | B
   ·rcases ou B with q | ⟨_,q⟩
    ·exact absurd rfl (S.cell _ (fq q))
    ·exact q
   ·rcases ou B with q | ⟨z,_⟩
    ·exact q
    ·cases z
  have w:=fq t;obtain⟨c,hc⟩:=k7 scope.names [] w (Q _ w rfl);exact jn hc
 ·intro z;obtain⟨o,ho⟩:=J b k;exact absurd (b8 (br ho) (bC E (gS z.symm))) (gR _)
 ·rcases(g b k).2.2.2.1 with z | z
  ·exact I.ok.noex b o e z
  ·exact absurd (b8 (br e) (bC I.ok.bsz z)) (gR _)
 ·rcases aW.mp (I.yJ b z)with q | q
  ·exact(g b k).2.1 q
  ·exact(g b k).2.2.1 q
 ·-- a slot: ag8 ajp from Tv afp
  have R:i<link.length:=by
   have:=(cS.mp f).1;unfold g9 at this
   rwa [aD]at this
  unfold g9 at f;rw[cw,b7 R]at f;have f:=cL f;cases z:link[i]with
  | none=>rw[z]at f;cases f
  | some j =>
   rw[z]at f;have f:(σ[j]?).join=some v:=f;obtain⟨hX,t⟩:=S.link i j x (by rw[b7 R,z]) e1
   have w:=fq t;have D:=S.free _ w rfl;obtain⟨m,hn,hl⟩:=I.loc;obtain⟨u,r,l⟩:=hl j x v hX (by
    cases q:σ[j]? with
    | none=>rw[q]at f;cases f
    | some q'=>rw[q]at f;cases q' with
     | none=>cases f
     | some v'=>cases f;rfl) (by rcases D with q | q;exact .inr (.inl q);exact .inr (.inr q))
   refine⟨u,r,.inr ⟨zA t,?_⟩⟩;obtain⟨c,hc⟩:=k7 scope.names [] w (Q _ w rfl);obtain⟨c',T⟩:=jn hc;refine⟨c',T,?_⟩;rcases l with⟨lk,_⟩ | ⟨_,d,hd,kQ⟩
   ·rcases D with q | q<;>(rw[show X.env.kindOf x=some .local from lk]at q;cases q)
   ·have:=cu T;rw[hd]at this;cases this;exact kQ.keeps hk
 ·obtain⟨v,o,ho,hd⟩:=I.cell x c (cu e);exact⟨v,o,hk _ _ ho,hd⟩
end
abbrev TB:=V->St->Hp->(Option V->St->Hp->Prop)->Prop
def PB(X:Cx)(i:Expr)(c:List Expr)(d:Expr)(j:TB):Prop :=
 ∀(e:List (Addr×Obj)) (s:Shared) (σ:St) (H:Hp) (v:V) (u:Value) (Q:Option V->St->Hp->Prop),Inv X e σ H s->RelV v u->j v σ H Q ->
  wpAny (model X.prog X.w) X.A (assign i X.env u) (λ_ k=>wpAny (model X.prog X.w) X.A (Ha c X.env) (λok f =>
   if ok=true then wpAny (model X.prog X.w) X.A (eval d X.env) (λy l=>∃g a b,Inv X e a b l/\RelV g y/\Q (some g) a b) X.xe f
   else ∃a b,Inv X e a b f/\Q none a b) X.xe k) X.xe s
def Mu(f:PG X i g)(he:PE X elt j):PB X i [] elt (λv b H Q=>g v b H λa c=>j a c λy d=>Q (some y) a d):=by
 intro e s b H v u Q I r h;refine thn (f e s b H v u _ I r h) λ_ s2 ⟨a,c,k,l⟩=>ao ?_
 rw[if_pos rfl];exact thn (he e s2 a c _ k l) (by rintro y s4 ⟨m,d,o,p,q⟩;exact⟨m,a,d,o,p,q⟩)
def RL(m:PG X o g)(hc:PT X c p)(he:PE X elt q) :
  PB X o [c] elt (λv f H Q=>g v f H λa i=>p a i λb d=>if b=true then q a d λy j=>Q (some y) a j else Q none a d):=by
 intro k s f H v u Q I r h;refine thn (m k s f H v u _ I r h) λ_ s2 ⟨a,i,t,w⟩=>?_
 refine wpAny_tests_one (thn (hc k s2 a i _ t w) λb s3 ⟨d,l,e⟩=>?_)
 cases b with
 | true =>
  rw[if_pos rfl]at e ⊢;exact thn (he k s3 a d _ l e) (by rintro y s4 ⟨x,j,B,C,D⟩;exact⟨x,a,j,B,C,D⟩)
 | false =>
  rw[if_neg bX]at e ⊢;exact⟨a,d,l,e⟩
def xj(link:List (Option Nat))(g:TI)(j:TB):TE:=λc H Q=>g c H λJ k=>∃W:Nat->Nat->List V->St->Hp->Prop,(∃m,W 0 m [] (g9 link c) k)/\∀i m a d b,W i m a d b ->
 (J.stop i b/\a.length<=sizeLine/\∀D,b D=none->Q (.ref D) (dj b D (.lst a))) \/
 (J.go i b/\a.length<sizeLine/\∀x e,J.yld i b x e->j x d e λo l p=>∃f,f<m/\W (i+1) f (a++o.toList) l p)
structure afq (X:Cx) (ae:List (Addr×Obj)) (H:Hp) (C:Addr):Prop where
 free:H C=none
 above:X.s₀.heap.objs.size<=C
 loc:C≠X.env.locals
 cell:∀x c,X.env.cells.lookup x=some c->c≠C
 pin:∀p∈X.pn++ae,p.1≠C
def xk(hc:X.calm=true)(S:jH X N link scope)(hi:PI X tg iter wi)
  (hb:∀(C:Addr) (s:Shared) (H:Hp) (g:List Addr),PB (cW X N scope C s H g) tg ifs elt tb) (hs:∀x,foldedSetIterable iter X.env x=pure x) (I:Inv X ae σ H s) (h:xj link wi tb σ H Q)
  (afr:∀(s5:Shared) (D C:Addr) (H5:Hp) (m:Str->Option Value),Inv X ae σ H5 s5->Q (.ref D) H5->s5.heap.Ns C m->afq X ae H5 C->compPost (model X.prog X.w) X.A X.xe use Q' (.ref D) C (.ok .next) s5) :
  wpAny (model X.prog X.w) X.A (comprehension (.ListComp elt [⟨tg,iter,ifs,0⟩] scope pos) scope X.env vW (newList []) false (eval iter X.env) use) Q' X.xe s:=by
 have A8:∀y∈scope.names,y.2=.free->∃c,X.env.cells.lookup y.1=some c:=λy hy hf=>I.ok.has y.1 (S.free y hy hf)
 refine wpAny_comprehension_free rfl hs (uF A8) S.kind S.names (thn (hi ae s σ H _ I h) λv s1 h1=>thn h1 λitv f h2=>?_)
 obtain⟨it,g,tn,J,k,rfl,l,T,st2,f2,W,⟨m0,w0⟩,nJ⟩:=h2;refine jh (wpAny_newFunctionEnv S.cell (by grind) (λIY ns sb=>?_) S.kind)
 dsimp only at ns sb ⊢
 generalize hD:f.heap.push {cls:=.type "list",dict:=none,data:=.seq [].toArray}=HD at ns sb ⊢
 have hC:HD.objs.size=f.heap.objs.size+1:=by rw[<-hD,pK]
 have L:f.heap.objs.size≠HD.objs.size:=by grind
 have Mv:f.heap.objs.size<=HD.objs.size:=by grind
 have old:∀b o,f.heap.get? b=some o->IY.get? b=some o:=λb o e=>by
  have fW:=br e;exact sb.extBut b o (bL (b8 fW Mv)) (bA _ (by rw[<-hD];exact bA _ e))
 have afs:IY.get? f.heap.objs.size=some {cls:=.type "list",data:=.seq [].toArray} :=
  sb.extBut _ _ L (bA _ (by rw[<-hD];exact cU _ rfl))
 generalize E:f.heap.objs.size=D at *
 generalize eC:HD.objs.size=C at *
 have exO:∀b∈g,∃o,f.heap.get? b=some o:=λb a=>let ⟨o,e,_⟩:=T.obj _ _ st2 b a;⟨o,e⟩
 have I3:∀tk,Inv (cW X N scope C f k g) [] (g9 link σ) k {f with heap:=IY,toks:=tk}:=λtk =>
  EX S l f2 (by rw[E];exact Mv) ns old exO
 have fpD:∀b∈g,b≠D:=λb a z=>by
  obtain⟨o,e⟩:=exO b a;have:=br e;rw[z,<-E]at this;exact gR _ this
 have Es:∀{Z:Hp} {pl:List (Addr×Obj)},(∀b∈g,Z b=none)->(∀p∈pl,p.1=D)->∀b∈g,yM (cW X N scope C f k g) pl Z b:=λ{Z pl} hn hp b a=>by
  have K0:=(I3 0).ok.exf b a;exact⟨hn b a,K0.1,(I3 0).ok.exfs b a,.inl a,K0.2,λp EK z=>fpD b a (z▸hp p (by simpa[cW]using EK))⟩
 have abb:∀x c,(cW X N scope C f k g).env.cells.lookup x=some c->c≠D:=λx c e z=>by
  obtain⟨v,o,ho,_⟩:=l.cell x c (cu e);have:=br ho;rw[z,<-E]at this;exact gR _ this
 have fsD:D∉(cW X N scope C f k g).fs:=λz=>by
  obtain⟨_,o,ho,_⟩:=l.stack.mem z;have:=br ho;rw[<-E]at this;exact gR _ this
 have loop:∀s3:Shared,s3={f with heap:=IY,toks:=f.toks+([]:List (Str×Value)).length} ->
   codeAny (model X.prog X.w) X.A (.compLoop (.ListComp elt [⟨tg,iter,ifs,0⟩] scope pos) 0 (.ref it) (.ref D) (cW X N scope C f k g).env) (compPost (model X.prog X.w) X.A X.xe use Q' (.ref D) C) s3:=by
  rintro s3 rfl
  refine Jn (λn s'=>∃i B bR Z j t,Inv (cW X N scope C f k g) [] bR Z s'/\tn i s'.heap/\(∀b∈g,Z b=none)/\Z D=none/\s'.heap.get? D=some {cls:=.type "list",data:=.seq j.toArray t}/\Vals B j/\W i n B bR Z) ?_ m0
   ⟨0,[],_,k,[],0,I3 _,T.keep _ _ _ st2 λb a o e=>old b o e,λb a=>(f2 b a).1,l.hok.fresh (gS E),afs,.nil,w0⟩
  rintro n s4 ⟨i,B,Ua,H4,j,t,I4,lH,fr4,hD4,LZ,hv,w4⟩
  have abd:Inv (cW X N scope C f k g) [(D,{cls:=.type "list",data:=.seq j.toArray t})] Ua H4 s4:=I4.nG λp hp=>by
   have e:p=(D,{cls:=.type "list",data:=.seq j.toArray t}):=by simpa using hp
   subst e;exact⟨LZ,hD4,L,fsD,λv=>by simp⟩
  have Mw:∀p∈[(D,({cls:=.type "list",data:=.seq j.toArray t}:Obj))],p.1=D:=λp hp=>by
   have e:p=(D,{cls:=.type "list",data:=.seq j.toArray t}):=by simpa using hp
   rw[e]
  rcases nJ i n B Ua H4 w4 with⟨stop,hz,q⟩ | ⟨go,hz,step⟩
  ·refine thn (T.done (cW X N scope C f k g) rfl rfl rfl hc i _ s4 Ua H4 _ abd (Es fr4 Mw) lH stop) λr s5 ⟨hr,M⟩=>?_
   subst hr;obtain⟨m,hn,_⟩:=M.loc;have pD:=M.pin (D,{cls:=.type "list",data:=.seq j.toArray t}) (dm _ (aG.mpr rfl))
   have R:∀b o,f.heap.get? b=some o->b≠D/\b≠C:=λb o e=>by
    have:=br e;rw[E]at this;exact⟨bL this,bL (b8 this Mv)⟩
   have Uc:X.env.locals≠D/\X.env.locals≠C:=by
    have:=l.lt;rw[E]at this;exact⟨bL this,bL (b8 this Mv)⟩
   have I6:=l.TK M.os M.base M.hok M.bare λb a=>⟨(f2 b a).2.2.2.1,(f2 b a).2.1,(f2 b a).2.2.2.2.1,(f2 b a).2.2.2.2.2⟩
   have I7:=Inv.adopt (o:=.lst B) I6 pD.2.1 (bC l.sz (gS E)) (ee Uc.1) (λx c e=>let ⟨v,o,ho,_⟩:=l.cell x c e;(R c o ho).1)
    (λp hp=>(R p.1 p.2 (l.pin p hp).1).1) ⟨hz,j,t,hv,pD.1⟩
   exact afr s5 D C _ m I7 (q D pD.2.1) hn ⟨by rw[aZ (ee L)];exact M.free,bC (bC l.sz (gS E)) Mv,ee Uc.2,λx c e=>let ⟨v,o,ho,_⟩:=l.cell x c e;(R c o ho).2,λp hp=>(R p.1 p.2 (l.pin p hp).1).2⟩
  ·refine thn (T.item (cW X N scope C f k g) rfl rfl rfl hc i _ s4 Ua H4 _ abd (Es fr4 Mw) lH go) λr s5 ⟨u,hr,h5⟩=>?_
   subst hr;refine thn h5 λ_ s5' z9=>?_
   obtain⟨x,H5,M,r5,y5,VR,fr5⟩:=z9;have I5':=M.pinned (Es fr5 Mw) (T.obj _ _ VR);have fin:∀{o:Option V} {σ6:St} {H6:Hp} {s6:Shared},Inv (cW X N scope C f k g) ([(D,{cls:=.type "list",data:=.seq j.toArray t})]++t8 g s5'.heap) σ6 H6 s6 ->
     tn (i+1) s6.heap/\(∀b∈g,H6 b=none)/\H6 D=none/\s6.heap.get? D=some {cls:=.type "list",data:=.seq j.toArray t}:=λ{o σ6 H6 s6} I6=>by
    have pD:=I6.pin (D,_) (dm _ (fI _ (aG.mpr rfl)));refine⟨T.keep _ _ _ VR λb a o e=>(I6.pin (b,o) (dm _ (dm _ (jW a e)))).1,λb a=>?_,pD.2.1,pD.1⟩
    obtain⟨o,e,d⟩:=T.obj _ _ VR b a;exact(I6.pin (b,o) (dm _ (dm _ (jW a e)))).2.1
   refine kM (hb C f k g _ s5' Ua H5 x u _ I5' r5 (step x H5 y5)) (λ_ s6 h6=>kM h6 (λok s7 h7=>?_) λ_ _ z=>False.elim z) λ_ _ z=>False.elim z
   cases ok with
   | false =>
    rw[if_neg bX]at h7 ⊢;obtain⟨Y,H8,I8,m',hm',w8⟩:=h7;obtain⟨a1,a2,a3,a4⟩:=fin (o:=none) I8;exact⟨m',hm',i+1,_,Y,H8,j,t,I8.nG (λp hp=>by cases hp),a1,a2,a3,a4,by simpa using hv,w8⟩
   | true =>
    rw[if_pos rfl]at h7 ⊢;refine kM h7 (λy s8 z9=>?_) λ_ _ z=>False.elim z
    obtain⟨v8,Y,H8,I8,r8,m',hm',w8⟩:=z9;obtain⟨a1,a2,a3,a4⟩:=fin (o:=some v8) I8;have hl:=hv.length;refine mT F.slot_list_append ⟨_,a4,rfl⟩ F.entry_list_append (F.args_list_append_2 _ _) (PySem.list_append D j.toArray t y (by rw[fK];lia)) ⟨a4,?_⟩
    have I9:Inv (cW X N scope C f k g) [] Y H8 s8:=I8.nG (λp hp=>by cases hp)
    have qq:=PySem.IsL.update a4 λz=>z.push y
    have hp:j.toArray.push y=(j++[y]).toArray:=by simp
    rw[hp]at qq;refine⟨m',hm',i+1,_,Y,H8,j++[y],_,I9.turned (λb o hne e=>(ye _ _ (ee hne)).trans e) a3 L (.inr (gS E)) abb (λp hp=>by simp[cW]at hp),T.keep _ _ _ a1 λb a o e=>(ye _ _ (ee (fpD b a))).trans e,a2,a3,qq,hv.append (.cons r8 .nil),w8⟩
 exact codeAny_compStart_list (loop _ rfl) (T.self _ 0 _ _ _ (T.keep _ _ _ st2 λb a o e=>old b o e) (loop _ rfl))
def Hb(hc:X.calm=true)(S:jH X N link scope)(d:PI X c iter f)
  (g:∀(C:Addr) (s:Shared) (H:Hp) (i:List Addr),PB (cW X N scope C s H i) c ifs elt j) (k:∀x,foldedSetIterable iter X.env x=pure x:=by intro _;rfl) :
  PE X (.ListComp elt [⟨c,iter,ifs,0⟩] scope pos) (xj link f j):=by
 intro u s v H Q I h;rw[eval_ListComp];refine xk hc S d g k I h λw D C l m p q r L=>⟨m,r,λy t=>?_⟩
 exact⟨.ref D,l,p.turned (λb o a e=>(t.2 b a).trans e) L.free L.loc (.inr L.above) L.cell L.pin,rfl,q⟩
def Hc(hc:X.calm=true)(hN:X.N.Nodup)(l:X.N[i]?=some x)(j:X.env.scope.names.lookup x=some .local)(S:jH X N link scope)(p:PI X c iter t)
  (u:∀(C:Addr) (s:Shared) (H:Hp) (y:List Addr),PB (cW X N scope C s H y) c ifs elt B) (hw:swapsWith (.ListComp elt [⟨c,iter,ifs,0⟩] scope pos) (some (.Name x E)) J.line X.env=pure true) (M:∀x,foldedSetIterable iter X.env x=pure x:=by intro _;rfl) :
  PS X (.Assign [.Name x E] (.ListComp elt [⟨c,iter,ifs,0⟩] scope pos) J) (Pr (xj link t B) (gName i)):=by
 intro ae s σ H D I h;rw[exec_Assign_Name_used _ _ _ _ hw];refine ag (wpAny_standAt (ag ?_));refine ag (thn (xk hc S p u M I h λs5 a C Q m R q T L=>?_) λ_ s' q=>ao (ao q))
 refine wpAny_assign_Name (store_ok2 (v:=.ref a) R hN l (.inl j) rfl (λs6 Y k=>?_) (.inr j))
 refine⟨m,?_,λh' Z=>?_⟩
 ·obtain⟨o,es,ep,ho,r⟩:=T;obtain⟨b,d,f⟩:=k;have ne:C≠b:=λz=>by
   rcases f with w | w
   ·exact L.loc (z.trans w)
   ·exact L.cell x b w z.symm
  exact⟨o,es,ep,(d.2 C ne).trans ho,r⟩
 ·exact⟨_,Q,Y.turned (λb o g e=>(Z.2 b g).trans e) L.free L.loc (.inr L.above) L.cell L.pin,q⟩
noncomputable def bJ(link:List (Option Nat))(a:List (Option PV)):List (Option PV):=link.map λo=>o.bind λj=>(a[j]?).join
def KG(L:List Nat)(g:Tg):Prop:=∀p a b,g p a=some b->b.ρ.length=a.ρ.length/\∀j:Nat,j∉L->b.ρ[j]?=a.ρ[j]?
def KGs(L:List Nat)(g:Zh):Prop:=∀p a b,g p a=some b->b.ρ.length=a.ρ.length/\∀j:Nat,j∉L->b.ρ[j]?=a.ρ[j]?
def RM(i:Nat):KG [i] (aX i):=λp b c h=>by
 obtain⟨_,rfl⟩:=aU h;exact⟨yA,λj a=>pC (λz=>a (by simp[z]))⟩
def RN:KGs [] uz:=λp a b h=>by
 cases p with
 | nil=>cases h;exact⟨rfl,λ_ _=>rfl⟩
 | cons _ _=>cases h
def Mx(h1:KG L g)(c:KGs M r):KGs (L++M) (eP g r):=λp d e h=>by
 cases p with
 | nil=>cases h
 | cons p ps =>
  obtain⟨a,e1,f⟩:=bt h;obtain⟨i,k⟩:=h1 p d a e1;obtain⟨l,m⟩:=c ps a e f;exact⟨l.trans i,λj b=>(m j λz=>b (dm _ z)).trans (k j λz=>b (fI _ z))⟩
def W6(h:KGs L r):KG L (jZ n r):=λp a b e=>by
 unfold jZ at e;split at e
 ·obtain⟨_,e⟩:=bP e;exact h _ a b e
 ·cases e
section
variable {K:W.Frag} {F:Fz} {ρ:List (Option PV)} {σ:St}
def Lc.g9(L:Lc K F ρ σ)(link:List (Option Nat)):Lc K F (bJ link ρ) (g9 link σ) where
 av:=λi p e=>by
  unfold bJ at e;rw[cw]at e;cases z:link[i]? with
  | none=>rw[z]at e;cases e
  | some o =>
   rw[z]at e;cases o with
   | none=>cases e
   | some j =>
    have e:(ρ[j]?).join=some p:=cL e;cases w:ρ[j]? with
    | none=>rw[w]at e;cases e
    | some q =>
     rw[w]at e;cases e;obtain⟨v,a,b⟩:=L.av j p w;refine⟨v,?_,b⟩;unfold L2.U.g9;rw[cw,z];show some ((σ[j]?).join)=_;rw[a];rfl
 len:=by unfold bJ L2.U.g9;rw[aD,aD]
def Lc.back{L:List Nat}(R:Lc K F Jp σ)(b:a.length=σ.length)(c:a=bJ link ρ)(hk:∀j:Nat,j∉L->Jp[j]?=a[j]?)(d:∀i∈L,link[i]?=some none):Lc K F a σ where
 av:=λi p e=>by
  refine R.av i p ?_;rw[hk i λf=>?_]
  ·exact e
  ·rw[c]at e;unfold bJ at e;rw[cw,d i f]at e;cases e
 len:=b
end
noncomputable def okR{b:Type}:Rs b×dB->Option (b×List aE)
 | (.ok a,st)=>some (a,st.h)
 | _=>none
abbrev Bd:=List (Option PV)->PV->List aE->Option (Option PV×List aE)
def kx(g:Tg)(fe:Gx PV):Bd:=λa p h=>(g p ⟨a,h⟩).bind λb=>(fe b).bind λr=>(okR r).map λx=>(some x.1,x.2)
def lY(g:Tg)(c:Gx Bool)(fe:Gx PV):Bd:=λd p h=>(g p ⟨d,h⟩).bind λe=>(c e).bind λr=>match r with
 | (.ok b,a)=>if b=true then(fe a).bind λr=>(okR r).map λx=>(some x.1,x.2)else some (none,a.h)
 | _=>none
noncomputable def fP(bd:PV->List aE->Option (Option PV×List aE)):List PV->List aE->Option (List PV×List aE)
 | [],h=>some ([],h)
 | p::ps,h=>(bd p h).bind λr=>(fP bd ps r.2).map λs=>(r.1.toList++s.1,s.2)
section
variable {X:Cx} {aa:Hp} {ab:Fz} {N:List Str} {link:List (Option Nat)} {scope:Scope} {tg iter elt c:Expr} {pos:Pos} {fi:Gx (List PV)} {g:Tg} {fe:Gx PV} {ft:Gx Bool} {L:List Nat} {cl:Bool}
def BJ(e:okR r=some (a,h)):∃st,r=(.ok a,st)/\st.h=h:=by
 obtain⟨r,st⟩:=r;cases r with
 | ok x=>cases e;exact⟨st,rfl,rfl⟩
 | ex m C=>cases e
def _root_.L2.U.PB.imp(h:PB Y tg ifs elt d)(i:∀v a H Q,b v a H Q->d v a H Q):PB Y tg ifs elt b:=λe s a H v u Q I r w=>h e s a H v u Q I r (i _ _ _ _ w)
def tb1(X:Cx)(aa:Hp)(ab:Fz)(g:Tg)(fe:Gx PV):TB:=λv b H Q=>tG X.K aa ab g v b H λa d=>∀Y:Cx,Y.K=X.K->tE Y aa ab fe a d λy e=>Q (some y) a e
def tb2(X:Cx)(aa:Hp)(ab:Fz)(g:Tg)(ft:Gx Bool)(fe:Gx PV):TB:=λv d H Q=>tG X.K aa ab g v d H λa e=>∀Y:Cx,Y.K=X.K->tT Y aa ab ft a e λt b=>if t=true then tE Y aa ab fe a b λy f=>Q (some y) a f else Q none a b
section
variable (ht:∀(C:Addr) (s:Shared) (H:Hp) (fp:List Addr),PG (cW X N scope C s H fp) tg (tG X.K aa ab g)) (he:∀(C:Addr) (s:Shared) (H:Hp) (fp:List Addr),PE (cW X N scope C s H fp) elt (tE (cW X N scope C s H fp) aa ab fe))
include ht he
def pb1(C:Addr)(s:Shared)(H:Hp)(fp:List Addr):PB (cW X N scope C s H fp) tg [] elt (tb1 X aa ab g fe) :=
 (Mu (ht C s H fp) (he C s H fp)).imp (by rintro v σ H Q ⟨F,st,p,a,R,b,e,q⟩;exact⟨F,st,p,a,R,b,e,λd f i j k=>q d f i j k _ rfl⟩)
def pb2(hw:∀(C:Addr) (s:Shared) (H:Hp) (fp:List Addr),PT (cW X N scope C s H fp) c (tT (cW X N scope C s H fp) aa ab ft))(C:Addr)(s:Shared)(H:Hp)(fp:List Addr):PB (cW X N scope C s H fp) tg [c] elt (tb2 X aa ab g ft fe) :=
 (RL (ht C s H fp) (hw C s H fp) (he C s H fp)).imp (by rintro v σ H Q ⟨F,st,p,a,R,b,e,q⟩;exact⟨F,st,p,a,R,b,e,λd f i j k=>q d f i j k _ rfl⟩)
end
def r9(h:tS X aa ab (dh fe (aX i)) D σ H):tE X aa ab fe σ H λv a=>D.nx (σ.set i (some v)) a:=by
 obtain⟨F,d,R,h⟩:=h;refine⟨F,d,R,h.bnd λp v F1 m a b o f j=>?_⟩
 obtain⟨q,e,z⟩:=j.stp;obtain⟨k,rfl⟩:=aU e;exact z F1 _ a ⟨b.c,b.l.set k f⟩ (Gr.refl _)
end
def SI(h:Heap)(it l:Addr)(k:Nat)(xs:Array Value):Prop:=(h.IsListIter it l k/\h.IsList l xs)\/(h.IsTupleIter it l k/\h.IsTuple l xs)
def SI.at{h h':Heap}{it l:Addr}{k:Nat}{xs:Array Value}(x:SI h it l k xs)(h1:∀o,h.get? it=some o->h'.get? it=some o)(d:∀o,h.get? l=some o->h'.get? l=some o):SI h' it l k xs:=by
 rcases x with⟨⟨o,e,r⟩,⟨a,b,c⟩⟩ | ⟨⟨o,e,r⟩,⟨a,b,c⟩⟩
 ·exact .inl ⟨⟨o,h1 o e,r⟩,⟨a,d a b,c⟩⟩
 ·exact .inr ⟨⟨o,h1 o e,r⟩,⟨a,d a b,c⟩⟩
def SI.Ud{h:Heap}{it l:Addr}{k:Nat}{xs:Array Value}(x:SI h it l k xs):∃o,h.get? it=some o/\∃vs,o.data=.fields vs:=by
 rcases x with⟨⟨o,e,_,d⟩,_⟩ | ⟨⟨o,e,_,d⟩,_⟩
 ·grind
 ·grind
def SI.sq{h:Heap}{it l:Addr}{k:Nat}{xs:Array Value}(x:SI h it l k xs):∃o n,h.get? l=some o/\o.data=.seq xs n:=by
 rcases x with⟨_,⟨o,e,_,n,d⟩⟩ | ⟨_,⟨o,e,_,n,d⟩⟩
 ·grind
 ·grind
def SI.ne{h:Heap}{it l:Addr}{k:Nat}{xs:Array Value}(x:SI h it l k xs):l≠it:=λz=>by
 obtain⟨o,e,c,d⟩:=x.Ud;obtain⟨f,n,a,b⟩:=x.sq;subst z;rw[e]at a;cases a;rw[d]at b;cases b
section
variable {prog:Program} {w:World} {A:Around} {E:Value->Shared->Prop} {s:Shared}
def EY{it t:Addr}{i:Nat}{b:Array Value}{x:Value}{Q:Value->Shared->Prop}(a:s.heap.IsTupleIter it t i)(ht:s.heap.IsTuple t b)(c:b[i]?=some x)
  (d:∀h',h'.IsTupleIter it t (i+1)->Heap.SameBut it s.heap h'->Q x {s with heap:=h'}):wpAny (model prog w) A (Builtin.SmallTypes.nextOf (.ref it)) Q E s:=by
 obtain⟨o,ho,hc,hd⟩:=id a;obtain⟨g,e,_,j,f⟩:=ht;refine ag (kB a.typeIs yc (iq yc a.typeIs KZ (by
  show wpAny _ _ (field (.ref it) 0 >>= _) _ _ s;refine ag (kL ho hd rfl ?_);show wpAny _ _ (if(Value.ref t==Value.none)=true then _ else _) _ _ s
  rw[if_neg (show ¬((Value.ref t==Value.none)=true)from bX)]
  show wpAny _ _ (field (.ref it) 1 >>= _) _ _ s;refine ag (kL ho hd (x:=.int i 0) rfl ?_);show wpAny _ _ (seqItems? (.ref t) >>= _) _ _ s;refine ag (wpAny_seqItems e f ?_);simp only[fu,c];refine ag (tH ho hd (by simp) (ao ⟨x,rfl,ao (d _ ⟨_,sW _ ho (DY (pF hd _)),(D1 ..).trans hc,by rw[pF hd];simp[rawInt]⟩ (pE ..))⟩))) (KW _)))
def EZ{it t:Addr}{i:Nat}{c:Array Value}{Q:Value->Shared->Prop}(d:A.handled=none)(b:s.heap.IsTupleIter it t i)(ht:s.heap.IsTuple t c)(f:c[i]?=none)
  (g:∀h' e,Heap.ExtBut it s.heap h'->(∃o,h'.get? e=some o/\o.cls=.type "StopIteration")->E (.ref e) {s with heap:=h'}):wpAny (model prog w) A (Builtin.SmallTypes.nextOf (.ref it)) Q E s:=by
 obtain⟨o,ho,hc,hd⟩:=id b;obtain⟨l,j,_,p,k⟩:=ht;refine ag (kB b.typeIs yc (iq yc b.typeIs KZ (by
  show wpAny _ _ (field (.ref it) 0 >>= _) _ _ s;refine ag (kL ho hd rfl ?_);refine ag (kL ho hd (x:=.int i 0) rfl ?_);show wpAny _ _ (seqItems? (.ref t) >>= _) _ _ s;refine ag (wpAny_seqItems j k ?_);simp only[fu,f];refine ag (gD (ag (tH ho hd (by simp) ?_)))
  show wpAny _ _ (newExc (.type "StopIteration") [] >>= _) _ _ _;refine ag ?_;simp only[newExc,newTuple];refine ag (jh ?_ (by size_fits))
  refine ag (m:=firstArgMember _ _) (wpAny_of_eq (a:=Value.none) (by first | rfl | (simp only[firstArgMember];rfl)) ?_)
  refine jh ?_ (by size_fits)
  simp only[raiseNew];refine ag (wpAny_handled ?_)
  first | rw[show A.in1.handled=none from d] | rw[d]
  exact ag (ao (wpAny_throw (g _ _ (((pE ..).extBut.push _).push _) ⟨_,cU _ rfl,rfl⟩)))) (KW _)))
def SI.next{it l:Addr}{k:Nat}{xs:Array Value}{x:Value}{Q:Value->Shared->Prop}(e:SI s.heap it l k xs)(f:xs[k]?=some x)(g:∀h',SI h' it l (k+1) xs->Heap.SameBut it s.heap h'->Q x {s with heap:=h'}) :
  wpAny (model prog w) A (Builtin.SmallTypes.nextOf (.ref it)) Q E s:=by
 have ne:=e.ne;rcases e with⟨d,c⟩ | ⟨d,c⟩
 ·exact wpAny_nextOf_list_item d c f λh' a b=>g h' (.inl ⟨a,c.extBut b.extBut ne⟩) b
 ·exact EY d c f λh' a b=>g h' (.inr ⟨a,c.extBut b.extBut ne⟩) b
def SI.stop{it l:Addr}{k:Nat}{xs:Array Value}{Q:Value->Shared->Prop}(c:A.handled=none)(g:SI s.heap it l k xs)(d:xs[k]?=none)
  (f:∀h' e,Heap.ExtBut it s.heap h'->(∃o,h'.get? e=some o/\o.cls=.type "StopIteration")->E (.ref e) {s with heap:=h'}):wpAny (model prog w) A (Builtin.SmallTypes.nextOf (.ref it)) Q E s:=by
 rcases g with⟨a,b⟩ | ⟨a,b⟩
 ·exact wpAny_nextOf_list_end c a b d f
 ·exact EZ c a b d f
end
section
variable {prog:Program} {w:World} {A:Around} {E:Value->Shared->Prop} {s:Shared} {z TI TO i1 i2 l1 l2:Nat} {k:Nat} {xs ys:Array Value}
def xl(h:Heap)(l:Addr)(xs:Array Value)(c:String):Prop:=(c="list_iterator"/\h.IsList l xs)\/(c="tuple_iterator"/\h.IsTuple l xs)
def sd{l:Addr}{xs:Array Value}{c:String}{Q:Value->Shared->Prop}(h:xl s.heap l xs c)(a:Q (.ref s.heap.objs.size) {s with heap:=s.heap.push {cls:=.type c,data:=.fields #[.ref l,.int 0 0]}}):wpAny (model prog w) A (pyIter (.ref l)) Q E s:=by
 rcases h with⟨rfl,h⟩ | ⟨rfl,h⟩
 ·exact D4 h a
 ·exact DZ h a
end
def KC(K:W.Frag)(H:Hp)(c:Bool)(l:Addr)(vs:List V):Prop:=if c=true then yL K H l vs else jx K H l vs
def RP(h:Heap)(c:Bool)(it l:Addr)(k:Nat):Prop:=if c=true then h.IsListIter it l k else h.IsTupleIter it l k
def My(c:Bool):String:=if c=true then "list_iterator" else "tuple_iterator"
section
variable {X:Cx} {ae:List (Addr×Obj)} {σ:St} {H:Hp} {s:Shared}
def KC.get(I:Inv X ae σ H s){c:Bool}{l:Addr}{vs:List V}(h:KC X.K H c l vs):∃a:List Value,Vals vs a/\xl s.heap l a.toArray (My c):=by
 unfold My;cases c with
 | true =>
  obtain⟨a,r,pl,_⟩:=I.list (h);exact⟨a,r,.inl ⟨rfl,pl.isList⟩⟩
 | false =>
  obtain⟨a,r,pl,_⟩:=I.tuple (h);exact⟨a,r,.inr ⟨rfl,pl⟩⟩
def KC.inj(I:Inv X ae σ H s){c:Bool}{l:Addr}{vs ws:List V}(h:KC X.K H c l vs)(h':KC X.K H c l ws):vs=ws:=by
 cases c with
 | true=>exact I.nH h h'
 | false=>exact I.lG h h'
def Ug{h:Heap}{c:Bool}{it l:Addr}{k:Nat}{xs:Array Value}(h1:RP h c it l k)(a:xl h l xs (My c)):SI h it l k xs:=by
 cases c with
 | true =>
  rcases a with⟨_,q⟩ | ⟨q,_⟩
  ·exact .inl ⟨h1,q⟩
  ·exact absurd q (by decide)
 | false =>
  rcases a with⟨q,_⟩ | ⟨_,q⟩
  ·exact absurd q (by decide)
  ·exact .inr ⟨h1,q⟩
def RQ{h:Heap}{c:Bool}{it l:Addr}{k k':Nat}{xs:Array Value}{b:Heap}(h1:SI h it l k xs)(d:xl b l xs (My c))(j:∀o,b.get? l=some o->h.get? l=some o):RP h c it l k:=by
 cases c with
 | true =>
  rcases d with⟨_,⟨o,e,hc,_⟩⟩ | ⟨q,_⟩
  ·rcases h1 with⟨a,_⟩ | ⟨_,⟨f,g,i,_⟩⟩
   ·exact a
   ·grind
  ·exact absurd q (by decide)
 | false =>
  rcases d with⟨q,_⟩ | ⟨_,⟨o,e,hc,_⟩⟩
  ·exact absurd q (by decide)
  ·rcases h1 with⟨_,⟨f,g,i,_⟩⟩ | ⟨a,_⟩
   ·grind
   ·exact a
def Inv.turns{t':Nat}{h':Heap}{ch:List Addr}(I:Inv X ae σ H s)(a:∀b∈ch,yM X ae H b)(d:∀b o,b∉ch->s.heap.get? b=some o->h'.get? b=some o):Inv X ae σ H {s with heap:=h',toks:=t'}:=by
 have g:∀b u,H b=some u->b∉ch:=λb u e z=>by rw[(a b z).1]at e;cases e
 refine I.step (λb f=>⟨(a b f).2.2.2.1,(a b f).2.1,(a b f).2.2.2.2.1,(a b f).2.2.2.2.2⟩) (λb o _ _ hc e _=>d b o hc e) (λb o _ _ hc e _=>⟨o.slots,d b o hc e⟩) (λ_ _ _ _ n=>n)
  (λb o hc e=>⟨o,d b o hc e⟩) (λ_ _ e=>e) (λ_ _ _ e=>e) (λ_ _ e=>e) (λm j=>?_) (λb u e=>?_) I.bare
 ·obtain⟨o,k,l,ho,r⟩:=j;exact⟨o,k,l,d _ o (λz=>(a _ z).2.1 rfl) ho,r⟩
 ·refine(I.hok b u e).yH (λc v hc q=>d c v ?_ q) (λ_ q=>q) (λ_ _ q=>q) λ_ _ _ q=>q
  rcases hc with z | z
  ·rw[z];exact g b u e
  ·exact g c _ z
end
def RP.at{h h':Heap}{c:Bool}{it l:Addr}{k:Nat}(x:RP h c it l k)(h1:∀o,h.get? it=some o->h'.get? it=some o):RP h' c it l k:=by
 cases c with
 | true =>
  obtain⟨o,e,r⟩:=(x);exact(⟨o,h1 o e,r⟩)
 | false =>
  obtain⟨o,e,r⟩:=(x);exact(⟨o,h1 o e,r⟩)
def RP.obj{h:Heap}{c:Bool}{it l:Addr}{k:Nat}(x:RP h c it l k):∃o,h.get? it=some o/\∀v,o.data≠.cell v:=by
 unfold RP at x;split at x
 ·obtain⟨o,e,_,d⟩:=x;exact⟨o,e,λv=>by grind⟩
 ·obtain⟨o,e,_,d⟩:=x;exact⟨o,e,λv=>by grind⟩
def Mz{prog:Program}{w:World}{A:Around}{it l:Addr}{xs:Array Value}(g:A.handled=none):Draws prog w A it [it,l] xs.size (λi x=>xs[i]?=some x) (λi h=>SI h it l i xs) where
 live:=λi h c=>by
  obtain⟨o,e,_⟩:=c.Ud;exact⟨o,e⟩
 frame:=λi h d c k=>c.at (λo e=>k it (by simp) o e) (λo e=>k l (by simp) o e)
 item:=λi s Q E f c j=>SI.next c (sQ f) λd a b=>j _ d s.toks (sQ f) a b
 done:=λs Q E c m=>SI.stop g c (Array.getElem?_eq_none (au _)) m
set_option maxHeartbeats 2000000 in
theorem MA(l:Addr)(xs:Array Value)(c:String)(b:Obj) :
  Meets (Builtin.«enumerate.__new__» ⟨[.type "enumerate",.ref l],[]⟩) (λ_ R s=>xl s.heap l xs c/\s.heap.get? l=some b /\
   ∀h1 k:Heap,h1=s.heap.push {cls:=.type c,data:=.fields #[.ref l,.int 0 0]}->k=h1.push {cls:=.type "enumerate",data:=.fields #[.none,.bool false,.ref s.heap.objs.size,rawInt 0,.none,.none]}->R (.ok (.ret (.ref h1.objs.size))) {s with heap:=k}) :=
 .of_wp λprog w A R s h=>by
  obtain⟨hp,g,d,p,q⟩:=s;obtain⟨m,r,h⟩:=h;have f:xl (Shared.heap ⟨hp,g,d,p,q⟩) l xs c:=m;have x:=sub_enumerate;rcases m with⟨rfl,⟨o,e,hc,n,hd⟩⟩ | ⟨rfl,⟨o,e,hc,n,hd⟩⟩
  ·obtain⟨i,t,a,u⟩:=o;replace hc:i=.type "list":=hc;replace hd:a=.seq xs n:=hd
   wp_walk using kA e
   refine wpAny_stack_any λv=>ao ?_
   split
   ·rename_i j _ _ _ _ _;cases(j==Value.type "enumerate")<;>(wp_walk using kA e,sd f)<;>exact⟨_,rfl,h _ _ rfl rfl⟩
   ·wp_walk using kA e,sd f
    exact⟨_,rfl,h _ _ rfl rfl⟩
  ·obtain⟨i,t,a,u⟩:=o;replace hc:i=.type "tuple":=hc;replace hd:a=.seq xs n:=hd
   wp_walk using kA e
   refine wpAny_stack_any λv=>ao ?_
   split
   ·rename_i j _ _ _ _ _;cases(j==Value.type "enumerate")<;>(wp_walk using kA e,sd f)<;>exact⟨_,rfl,h _ _ rfl rfl⟩
   ·wp_walk using kA e,sd f
    exact⟨_,rfl,h _ _ rfl rfl⟩
def RS{prog:Program}{w:World}{A:Around}{E:Value->Shared->Prop}{s:Shared}{e it l:Addr}{k:Nat}{i:Int}{xs:Array Value}{a:Value}{Q:Option Value->Shared->Prop}(c:A.handled=none)(b:IsEnum s.heap e it i a)(st:SI s.heap it l k xs)(d:xs[k]?=none)(f:∀h',Heap.ExtBut it s.heap h'->Q none {s with heap:=h'}):wpAny (model prog w) A (pyNext (.ref e)) Q E s:=by
 have ty:s.TypeIs (.ref e) "enumerate":=⟨_,b,rfl⟩;unfold pyNext;refine ag (yC (kB ty F.slot_enumerate_next (iq F.slot_enumerate_next ty F.entry_enumerate_next (by
  show wpAny _ _ (field (.ref e) 2 >>= _) _ _ _;refine ag (kL b rfl rfl (ag (SI.stop c st d λh' y g ⟨o,ho,hc⟩=>?_)))
  exact ag (Ea ⟨o,ho,hc⟩ isSubtype_stop (ao (f _ g)))) (F.args_enumerate_next_1 _))))
def Ien(K:W.Frag)(c:Bool)(l:Addr):It where
 go:=λi H=>∃a v,KC K H c l a/\a[i]?=some v
 yld:=λi H x b=>∃T v,H T=none/\x=.ref T/\b=dj H T (.aq [.int i,v])/\∀a,KC K H c l a->a[i]?=some v
 stop:=λi H=>∃a,KC K H c l a/\a.length<=i
def eTn(e it l:Nat)(c:Bool)(i:Nat)(h:Heap):Prop:=(∃a,IsEnum h e it i a)/\RP h c it l i
def RT{P:Program}{w:World}{K:W.Frag}{g:List Expr}{x1:Nat}{V4:Pos}{e it l:Nat}{c:Bool}(j:it<e)(Z:l<it) :
  Turn P w K (.Tuple g x1 V4) (Ien K c l) [e,it] e (eTn e it l c) where
 mem:=aO
 obj:=by
  rintro i h ⟨⟨_,a1⟩,a2⟩ b a
  simp only[aW,fw,fA]at a;rcases a with rfl | rfl
  ·exact⟨_,a1,λv=>by simp⟩
  ·exact a2.obj
 keep:=(by rintro i h h' ⟨⟨old,a1⟩,a2⟩ k;exact⟨⟨old,k e (by simp) _ a1⟩,a2.at λo x=>k it (by simp) o x⟩)
 item:=by
  rintro X C hw J hc i ae s σ H E I hf ⟨⟨old,a1⟩,a2⟩ ⟨vs,v,t,ev⟩
  subst C hw J;obtain⟨u,L,y⟩:=t.get I;obtain⟨x,ex,rx⟩:=L.get ev;have ne:e≠it:=tM j;have m:e≠l:=tM (pQ Z j);have Ue:X.A.in1.handled=none:=I.ok.hd hc;refine wpAny_pyNext_enum_itemD (Mz (xs:=u.toArray) (l:=l) Ue) a1 (Ug a2 y) (by
   have:=(cS.mp ex).1;simpa using this) ne (by simp[ne,m]) λM h' B ER hO st hT hs' kp=>⟨_,rfl,?_⟩
  have xe:M=x:=by
   have e1:u.toArray[i]?=some x:=by simpa using ex
   rw[e1]at ER;cases ER;rfl
  subst xe;refine wpAny_letOwnedTupleGo_enum hO λf N p=>?_
  have r:∀b∈[e,it],b<s.heap.objs.size:=λb a=>by
   simp only[aW,fw,fA]at a;have h1:e<s.heap.objs.size:=br a1;rcases a with rfl | rfl<;>lia
  have eT:e≠s.heap.objs.size:=bL (r e (by simp))
  have R:∀b o,b∉[e,it]->s.heap.get? b=some o->f.get? b=some o:=λb o a z=>by
   simp only[aW,fw,fA,not_or]at a;exact p.extBut _ _ a.1 (kp b o a.1 a.2 z)
  have I1:Inv X ae σ H {s with heap:=f,toks:=B+1}:=Inv.turns I hf R
  have T:H s.heap.objs.size=none:=I.fresh;have d:=I.LB (H':=H) (au _) T;have pr:f.get? s.heap.objs.size=some {cls:=.type "tuple",data:=.seq #[.int i B,M]}:=p.extBut _ _ (ee eT) hT
  have I2:=Inv.adopt (D:=s.heap.objs.size) (o:=.aq [.int i,v]) I1 T (by
    rcases d.2.2.2.1 with q | q
    ·exact I.sz
    ·exact q) d.2.1 d.2.2.2.2.1 d.2.2.2.2.2 ⟨(by show 2<=sizeLine;decide),[.int i B,M],.cons ⟨B,rfl⟩ (.cons rx .nil),⟨_,pr,rfl,0,rfl⟩⟩
  refine⟨.ref s.heap.objs.size,_,I2,rfl,⟨s.heap.objs.size,v,T,rfl,rfl,λyZ h1=>?_⟩,⟨⟨_,N⟩,?_⟩,λb a=>?_⟩
  ·rw[<-KC.inj I t h1];exact ev
  ·have Y:l≠it:=bL Z;have q:=RQ (k':=i) st y λo z=>kp l o (ee m) Y z
   exact q.at λo z=>p.extBut _ _ (ee ne) z
  ·rw[aZ (bL (r b a))];exact(hf b a).1
 done:=by
  rintro X C hw J hc i ae s σ H E I hf ⟨⟨old,a1⟩,a2⟩ ⟨vs,t,he⟩
  subst C hw J;obtain⟨u,L,y⟩:=t.get I;have hz:u.toArray[i]?=none:=Array.getElem?_eq_none (by rw[fK,<-L.length];exact he)
  refine RS (I.ok.hd hc) a1 (Ug a2 y) hz λh' p=>⟨rfl,?_⟩
  exact Inv.turns (t':=s.toks) I hf λb o a z=>by
   simp only[aW,fw,fA,not_or]at a;exact p b o a.2 z
 self:=(by rintro A i s Q E ⟨⟨_,a1⟩,_⟩ q;exact wpAny_pyIter_enum a1 q)
def Uh:Expr->Bool
 | .Tuple _ _ _=>true
 | _=>false
def zC:PV->Option (List PV)
 | .nd .aq ps=>some ps
 | .nd .lst ps=>some ps
 | _=>none
def qE(p q:PV):PV:=.aq [p,q]
def MB{K:W.Frag}(h:zC p=some ps)(b:b6 K F p x):∃c l vs,x=.ref l/\KC K F.F c l vs/\aI K F ps vs/\∀F',cX F.F F'->KC K F' c l vs:=by
 unfold zC at h;split at h
 ·cases h;obtain⟨l,vs,rfl,a,d⟩:=c5.mp b;exact⟨false,l,vs,rfl,a,d,λF' s=>bQ s a⟩
 ·cases h;obtain⟨l,vs,rfl,a,d⟩:=gL.mp b;exact⟨true,l,vs,rfl,a.sq,d,λF' s=>(Bu s a).sq⟩
 ·cases h
def Jq{K:W.Frag}(d:yL K F.F a vs)(c:aI K F ps vs):Walk K F ps (Itl K a):=by
 intro k l f m o H R s i;have b:=(s.s.trans R.sub).seq d;refine⟨λp e=>?_,λe=>?_⟩
 ·obtain⟨v,e1,g⟩:=c.get e;refine⟨⟨vs,v,b,e1⟩,λx q ⟨j,y⟩=>?_⟩
  subst j;have:=y vs b;rw[e1]at this;cases this;exact⟨f,R,Gr.refl _,g.mono s⟩
 ·refine⟨vs,b,?_⟩;rw[<-c.length];exact ph.mp e
def MC{K:W.Frag}(d:jx K F.F a vs)(c:aI K F ps vs):Walk K F ps (Itt K a):=by
 intro k l f m o H R s i;have b:=bQ (s.s.trans R.sub) d;refine⟨λp e=>?_,λe=>?_⟩
 ·obtain⟨v,e1,g⟩:=c.get e;refine⟨⟨vs,v,b,e1⟩,λx q ⟨j,y⟩=>?_⟩
  subst j;have:=y vs b;rw[e1]at this;cases this;exact⟨f,R,Gr.refl _,g.mono s⟩
 ·refine⟨vs,b,?_⟩;rw[<-c.length];exact ph.mp e
noncomputable def RU(lo:Int)(n:Nat):List PV:=(List.range n).map fun(i:Nat)=>.int (lo+i)
def E2{K:W.Frag}(lo:Int)(n:Nat):Walk K F (RU lo n) (Itr lo n):=by
 intro d f b g j H R s i;unfold RU;refine⟨λp e=>?_,λe=>?_⟩
 ·rw[cw]at e;by_cases a:i<n
  ·rw[sZ a]at e;cases e;exact⟨a,λx k ⟨c,y⟩=>by subst c y;exact⟨b,R,Gr.refl _,aN.mpr rfl⟩⟩
  ·rw[pj (by simpa using a)]at e;cases e
 ·rw[cw]at e;by_cases a:i<n
  ·rw[sZ a]at e;cases e
  ·exact pG a
def dG:Nat->List PV->List PV
 | _,[]=>[]
 | k,p::r=>qE (.int k) p::dG (k+1) r
theorem qa:∀(ps:List PV) (k i:Nat),(dG k ps)[i]?=ps[i]?.map λp=>qE (.int ((k+i:Nat):Int)) p
 | [],k,i=>by simp[dG]
 | p::r,k,0=>by simp[dG]
 | p::r,k,i+1=>by
  simp only[dG,List.getElem?_cons_succ];rw[qa r (k+1) i,show k+1+i=k+(i+1) by lia]
def RV{K:W.Frag}(k:∀F',cX F.F F'->KC K F' c l vs)(f:aI K F ps vs):Walk K F (dG 0 ps) (Ien K c l):=by
 intro w y F' B C H R s i;have b:=k H (s.s.trans R.sub);refine⟨λp e=>?_,λe=>?_⟩
 ·rw[qa]at e;cases a:ps[i]? with
  | none=>rw[a]at e;cases e
  | some m =>
   rw[a]at e;cases e;obtain⟨v,e1,d⟩:=f.get a;refine⟨⟨vs,v,b,e1⟩,λx D o=>?_⟩
   obtain⟨T,E,q,r,t,u⟩:=o;have g:=u vs b;rw[e1]at g;cases g;subst r t;obtain⟨R2,j⟩:=R.laid (.aq [.int i,v]) q;refine⟨_,R2,j,c5.mpr ⟨T,[.int i,v],rfl,jx.of aK,.cons ?_ (.cons (d.mono (s.trans j)) .nil)⟩⟩;rw[dZ];exact aN.mpr rfl
 ·refine⟨vs,b,?_⟩;rw[qa]at e;cases a:ps[i]? with
  | none =>
   have:=ph.mp a;rw[f.length]at this;exact this
  | some m=>rw[a]at e;cases e
section
variable {X:Cx} {aa:Hp} {ab:Fz} {a b e tg:Expr} {fa fb:Gx PV} {ts:Gx (List PV)} {pos p:Pos}
noncomputable def W7(i j:Int):Bool:=decide (-(2^62)<=i/\i<2^62 /\ -(2^62)<=j/\j<2^62)
def uG:List PV->Option (List PV)
 | [.int j]=>if W7 0 j=true then some (RU 0 j.toNat)else none
 | _=>none
def wc(g:List PV->Option (List PV))(ts:Gx (List PV)):Gx (List PV):=bnd ts λps=>lV (g ps)
def MD(c:Gl X "range")(d:X.mg "range"=none)(f:PA X [a] (tA X aa ab ts))(g:starEach [a] X.env=[(false,eval a X.env)]:=by rfl):PI X tg (.Call (.Name "range" p) [a] [] pos) (tI X aa ab (wc uG ts)) :=
 (IG c d f g).imp λσ H r ⟨F,st,R,h⟩=>⟨F,st,R,h.bnd λps t F1 u i j w k l=>by
  obtain⟨o,e,z⟩:=l.lV;unfold uG at e;split at e
  ·obtain⟨hr,rfl⟩:=aU e;obtain⟨v,rfl,b⟩:=eE k;obtain⟨_,_,m,q⟩:=fJ hr;rw[aN.mp b];exact⟨_,rfl,m,q,z _ i F1 j (Gr.refl _) (E2 0 _)⟩
  ·cases e⟩
def xm(fa:Gx PV):Gx (List PV):=bnd fa λp=>lV ((zC p).map λps=>dG 0 ps)
def afz(ht:Uh tg=true)(hg:Gl X "enumerate")(hm:X.mg "enumerate"=none)(ha:PE X a (tE X aa ab fa))(L:starEach [a] X.env=[(false,eval a X.env)]) :
  PI X tg (.Call (.Name "enumerate" p) [a] [] pos) (tI X aa ab (xm fa)):=by
 rintro M s σ H R I ⟨F,st,Rp,h⟩
 have hA:=jX ha ue L pos M s σ H (λN H'=>∃t Q x u ps,N=[x]/\Rep X.K aa ab t Q σ H'/\b6 X.K t u x/\zC u=some ps/\∀b g w,Rep X.K aa ab w Q σ g->Gr t w->Walk X.K w (dG 0 ps) b->R b g) I
  ⟨F,st,Rp,h.bnd λp v F1 T f k y B d=>by
   obtain⟨o,e,z⟩:=d.lV;obtain⟨ps,e1,rfl⟩:=bE e;exact⟨F1,T,v,p,ps,rfl,k,B,e1,z⟩⟩
 refine Call_ (ld_blt I hg hm boot_enumerate (mK (thn hA λus c z9=>?_) L rfl))
 obtain⟨N,f,l,r1,F1,T,x,u,ps,ev,k,B,f3,q⟩:=z9;subst ev;obtain⟨u1,rfl,C⟩:=ki r1;obtain⟨Y,Z,vs1,rfl,q1,D,k1⟩:=MB f3 B;cases C;obtain⟨aJ,v1,i⟩:=(k1 f k.sub).get l;obtain⟨j,Ui⟩:∃o,c.heap.get? Z=some o:=by
  rcases i with⟨_,⟨o,e,_⟩⟩ | ⟨_,⟨o,e,_⟩⟩
  ·grind
  ·grind
 have E:=br Ui;refine callType_new PySem.F.called_enumerate (by decide) (PySem.F.typeCall_enumerate_1 _) (PySem.F.newCall_enumerate_1 _) (λobj=>PySem.F.args_object_init_2 obj _) PySem.F.entry_enumerate_new (MA Z aJ.toArray (My Y) j) ⟨i,Ui,λd m e1 e2=>?_⟩
 have z1:d.objs.size=c.heap.objs.size+1:=by simp_all
 have p1:∀b o,c.heap.get? b=some o->d.get? b=some o:=λb o e=>by rw[e1];exact bA _ e
 have p2:∀b o,d.get? b=some o->m.get? b=some o:=λb o e=>by rw[e2];exact bA _ e
 have J:IsEnum m d.objs.size c.heap.objs.size 0 .none:=by rw[e2];exact cU _ rfl
 have y:=p2 _ _ (by rw[e1];exact cU _ rfl)
 have I2:Inv X M σ f {c with heap:=m,toks:=c.toks}:=l.kept λb o e=>p2 _ _ (p1 _ _ e)
 have pW:∀b,c.heap.objs.size<=b->f b=none:=λb r=>l.hok.fresh r
 refine⟨⟨_,J,rfl⟩,?_⟩;show wpAny _ _ (pyIter (.ref d.objs.size)) _ _ {c with heap:=m,toks:=c.toks}
 refine wpAny_pyIter_enum J ?_;cases tg with
 | Tuple elts x1 V4 =>
  refine⟨d.objs.size,[d.objs.size,c.heap.objs.size],_,_,f,rfl,I2,RT (by lia) E,⟨⟨_,J⟩,(by
   cases Y with
   | true=>exact(⟨_,y,rfl,rfl⟩)
   | false=>exact(⟨_,y,rfl,rfl⟩))⟩,λb r=>?_,q _ f F1 k (Gr.refl _) (RV k1 D)⟩
  simp only[aW,fw,fA]at r;have Wv:c.heap.objs.size<=b:=by rcases r with rfl | rfl<;>lia
  exact l.LB Wv (pW b Wv)
 | _=>cases ht
end
inductive E3 where
 | sq (ps:List PV) | cl (n:Nat)
def abf(K:W.Frag)(F:Fz):E3->It->Prop
 | .sq ps,J=>Walk K F ps J
 | .cl n,J=>∃a,F.μ[n]?=some a/\J=Itl K a
abbrev ME(X:Cx)(a:Hp)(b:Fz)(f:Gx E3):TI:=tX X a b (abf X.K) f
def He(f:Gx (List PV)):Gx E3:=bnd f λps=>aV (.sq ps)
def Hf(n:Nat)(h:List aE)(i:Nat):Option (Option PV):=match cO h (.ref n)with
 | some (.lst,ps)=>some ps[i]?
 | _=>none
def MF(h:List aE)(p:PV):Option E3:=match zC p with
 | some ps=>some (.sq ps)
 | none=>match p with
  | .ref n=>match cO h (.ref n)with
   | some (.lst,_)=>some (.cl n)
   | _=>none
  | _=>none
def gP(fe:Gx PV):Gx E3:=bnd fe λp=>hp λh=>MF h p
def BM(g:Tg)(a:Gx fD)(n:Nat):Nat->Nat->Gx fD
 | 0,_=>λ_=>none
 | f+1,i=>λb=>match Hf n b.h i with
  | some (some p)=>bnd (stp (g p)) (λ_=>bnd a (xg (BM g a n f (i+1)))) b
  | some none=>some (.ok .nx,b)
  | none=>none
def abg(g:Tg)(a:Gx fD):E3->Gx fD
 | .sq ps=>dX g a ps
 | .cl n=>BM g a n gF 0
def BN(fi:Gx E3)(g:Tg)(a:Gx fD):Gx fD:=bnd fi (abg g a)
section
variable {X:Cx} {aa:Hp} {ab:Fz} {e tg iter:Expr} {fa:Gx PV} {fb:Gx fD} {body:List Stmt} {pos:Pos}
def abh(h:PI X tg e (tI X aa ab f)):PI X tg e (ME X aa ab (He f)):=(by rintro a s σ H R I ⟨F,st,b,c⟩;exact h a s σ H R I ⟨F,st,b,c.bnd λps J F1 k d g l i j=>j.aV J d F1 g (Gr.refl _) i⟩)
def MH{K:W.Frag}{st:dB}(R:Rep K aa ab F st σ H)(b:F.μ[n]?=some a)(e:Hf n st.h i=some o):∃ps vs,o=ps[i]?/\yL K H a vs/\aI K F ps vs:=by
 unfold Hf at e;split at e
 ·rename_i ps z;cases e;obtain⟨f,vs,e1,c,d⟩:=R.at z (eA.mpr ⟨a,b,rfl⟩);cases e1;exact⟨ps,vs,rfl,lF.sq c,d⟩
 ·cases e
def Uj(he:PE X e (tE X aa ab fa)):PI X tg e (ME X aa ab (gP fa)):=by
 rintro o s σ H R I ⟨F,st,t,h⟩
 obtain⟨r,e1,g⟩:=At.bnd h
 match r,g with
 | (.ex m C,w),g =>
  exact LD he o s σ H R I ⟨F,st,t,_,e1,g⟩
 | (.ok p,w),g =>
  obtain⟨ps,b,q⟩:=At.hp g;unfold MF at b;split at b
  ·rename_i x i;cases b;unfold zC at i;split at i
   ·cases i;refine LD he o s σ H R I ⟨F,st,t,_,e1,λv j F1 c k f=>?_⟩
    obtain⟨a,l,rfl,d,u⟩:=c5.mp f;exact⟨a,rfl,⟨l,bQ c.sub d⟩,q _ j F1 c k (MC d u)⟩
   ·cases i;refine GH he o s σ H R I ⟨F,st,t,_,e1,λv j F1 c k f=>?_⟩
    obtain⟨a,l,rfl,d,u⟩:=gL.mp f;exact⟨a,rfl,⟨l,(Bu c.sub d).sq⟩,q _ j F1 c k (Jq d.sq u)⟩
   ·cases i
  ·split at b
   ·rename_i n _;split at b
    ·rename_i x z;cases b;refine GH he o s σ H R I ⟨F,st,t,_,e1,λv j F1 c k f=>?_⟩
     obtain⟨a,l,rfl,d,u⟩:=c.at z f;obtain⟨D,y,B⟩:=eA.mp f;cases B;exact⟨a,rfl,⟨l,lF.sq d⟩,q _ j F1 c k ⟨a,y,rfl⟩⟩
    ·cases b
   ·cases b
def W8{fi:Gx E3}(hp:PassesOwn (model X.prog X.w) X.A X.env X.xe)(hc:X.calm=true)(hi:PI X tg iter (ME X aa ab fi))(hg:PG X tg (tG X.K aa ab g))(hb:PSs X body (tS X aa ab fb))
  (hs:∀x,foldedSetIterable iter X.env x=pure x:=by intro _;rfl):PS X (.For tg iter body [] pos) (tS X aa ab (BN fi g fb)):=(VQ hp hc hi hg hb hs).imp <| by
 rintro D σ H ⟨F,st,R,h⟩
 refine⟨F,st,R,h.bnd λsr J F1 bG H1 R1 g1 wk h1=>?_⟩
 cases sr with
 | sq ps =>
  refine⟨λi m j k=>m=ps.length-i/\i<=ps.length/\∃c b,Rep X.K aa ab c b j k/\Gr F1 c/\Sa X aa ab c D b (dX g fb (ps.drop i)),⟨ps.length,by simp,dE _,F1,bG,R1,Gr.refl _,h1⟩,?_⟩
  rintro i m j k ⟨rfl,hi,c,b,q,t,hr⟩
  obtain⟨wg,E⟩:=wk aa ab c b j k q t i;by_cases I:i<ps.length
  ·obtain⟨go,wy⟩:=wg ps[i] (b7 I);rw[sP I]at hr;refine .inr ⟨go,λu l=>∃F2 d,Rep X.K aa ab F2 d u l/\Gr F1 F2/\Sa X aa ab F2 D d (dX g fb (ps.drop (i+1))),λu l L=>⟨ps.length-(i+1),by lia,rfl,I,L⟩,λx l y=>?_⟩
   obtain⟨F2,R2,s2,b2⟩:=wy x l y;obtain⟨r,e1,C⟩:=At.bnd hr;obtain⟨f,M,N⟩:=bE e1;subst N;refine⟨F2,b,ps[i],f,R2,b2,M,λrj H3 Q T B=>⟨Q,f,T,?_⟩⟩
   exact Sa.nJ _ (λY Z Ua H4 R4 g4 z=>⟨Y,Z,R4,(t.trans (s2.trans B)).trans g4,z⟩) (Sa.mono (C) (s2.trans B))
  ·have e:i=ps.length:=by lia
   subst e;rw[yu]at hr;exact .inl ⟨E (pj (au _)),At.aV hr c j k q (Gr.refl _)⟩
 | cl n =>
  obtain⟨a,ha,rfl⟩:=wk;refine⟨λi m j k=>∃c b,Rep X.K aa ab c b j k/\Gr F1 c/\Sa X aa ab c D b (BM g fb n m i),⟨gF,F1,bG,R1,Gr.refl _,h1⟩,?_⟩
  rintro i m j k ⟨c,b,q,t,hr⟩
  cases m with
  | zero=>obtain⟨r,e,_⟩:=hr;cases e
  | succ m =>
   obtain⟨r,e1,C⟩:=hr;have e1:(match Hf n b.h i with
    | some (some p)=>bnd (stp (g p)) (λ_=>bnd fb (xg (BM g fb n m (i+1)))) b
    | some none=>some (.ok .nx,b)
    | none=>none)=some r:=e1
   cases z:Hf n b.h i with
   | none=>rw[z]at e1;cases e1
   | some o =>
    obtain⟨ps,vs,ho,hq,GY⟩:=MH q (t.m n a ha) z;cases o with
    | none =>
     rw[z]at e1;cases e1;refine .inl ⟨⟨vs,hq,?_⟩,C c j k q (Gr.refl _)⟩;rw[<-GY.length];exact ph.mp ho.symm
    | some p =>
     rw[z]at e1;obtain⟨v,hv,bv⟩:=GY.get ho.symm;refine .inr ⟨⟨vs,v,hq,hv⟩,λu l=>∃F2 d,Rep X.K aa ab F2 d u l/\Gr F1 F2/\Sa X aa ab F2 D d (BM g fb n m (i+1)),λu l L=>⟨m,tw m,L⟩,λx l ⟨hH,y⟩=>?_⟩
     subst hH;have:=y vs hq;rw[hv]at this;cases this;obtain⟨r',q1,q2⟩:=At.bnd (⟨r,e1,C⟩);obtain⟨f,M,N⟩:=bE q1;subst N;refine⟨c,b,p,f,q,bv,M,λrj H3 Q T B=>⟨Q,f,T,?_⟩⟩
     exact Sa.nJ _ (λY Z Ua H4 R4 g4 z=>⟨Y,Z,R4,(t.trans B).trans g4,z⟩) (Sa.mono (q2) B)
end
def qF(bd:PV->List aE->Option (Option PV×List aE))(n:Nat):Nat->Nat->List aE->Option (List PV×List aE)
 | 0,_,_=>none
 | f+1,i,h=>match Hf n h i with
  | some (some p)=>(bd p h).bind λr=>(qF bd n f (i+1) r.2).map λs=>(r.1.toList++s.1,s.2)
  | some none=>some ([],h)
  | none=>none
def abj(bd:PV->List aE->Option (Option PV×List aE))(h:List aE):E3->Option (List PV×List aE)
 | .sq ps=>if ps.length<=gF then fP bd ps h else none
 | .cl n=>qF bd n gF 0 h
def Uk(c:Bool)(a:List (Option PV))(r:List PV×List aE):Option (Rs PV×dB):=if c=true then mZ ⟨.lst,r.1⟩ ⟨a,r.2⟩else some (.ok (.lst r.1),⟨a,r.2⟩)
def cY(c:Bool)(link:List (Option Nat))(fi:Gx E3)(bd:Bd):Gx PV:=bnd fi λs a=>(abj (bd (bJ link a.ρ)) a.h s).bind (Uk c a.ρ)
section
variable {X:Cx} {aa:Hp} {ab:Fz} {N:List Str} {link:List (Option Nat)} {scope:Scope} {tg iter elt c:Expr} {pos:Pos} {fi:Gx E3} {g:Tg} {fe:Gx PV} {ft:Gx Bool} {L:List Nat} {cl:Bool}
def BO{e:dB}{Q:VK}(m:lI X.K aa ab F' hf H')(o:Lc X.K F1 e.ρ σ)(f:Gr F1 F')(i:aI X.K F' done acc)(j:H' D=none)(d:Uk cl e.ρ (done,hf)=some r)(k:Mf X aa ab F1 (λa p=>∀b H' F',Rep X.K aa ab F' p σ H'->Gr F1 F'->b6 X.K F' a b->Q b H') r):Q (.ref D) (dj H' D (.lst acc)):=by
 have Ro:Rep X.K aa ab F' ⟨e.ρ,hf⟩ σ H':=⟨m,o.mono f⟩;cases cl with
 | true =>
  have d:=d;exact Tx.mZ (Tx.mono ⟨r,d,k⟩ f λ_ _ z=>z) Ro j aK i
 | false =>
  have d:=d;cases d;obtain⟨R2,l⟩:=Ro.laid (.lst acc) j;exact k _ _ _ R2 (f.trans l) (gL.mpr ⟨D,acc,rfl,lF.of aK,i.mono l⟩)
def xo{Q:VK}
  (hb:∀(F2:Fz) (ρ:List (Option PV)) (p:PV) (h h':List aE) (o:Option PV) (x:V) (f:St) (q:Hp) (Q':Option V->St->Hp->Prop),bd (bJ link ρ) p h=some (o,h')->Rep X.K aa ab F2 ⟨bJ link ρ,h⟩ f q->b6 X.K F2 p x ->
   (∀w rj H3 t,Rep X.K aa ab t ⟨bJ link ρ,h'⟩ rj H3->Gr F2 t->aI X.K t o.toList (Option.toList w)->Q' w rj H3)->tb x f q Q')
  (h:tE X aa ab (cY cl link fi bd) σ H Q):xj link (ME X aa ab fi) tb σ H Q:=by
 obtain⟨F,st,R,h⟩:=h;refine⟨F,st,R,h.bnd λsr J F1 k H1 B g1 wk h1=>?_⟩
 obtain⟨r,e1,e2⟩:=h1;obtain⟨⟨rs,hf⟩,e3,e4⟩:=bt e1;cases sr with
 | sq ps =>
  obtain⟨eZ,e3⟩:=bP e3;refine⟨λi m d f C=>m=ps.length-i/\i<=ps.length/\d.length<=i/\∃j h' done b,Rep X.K aa ab j ⟨bJ link k.ρ,h'⟩ f C/\Gr F1 j/\fP (bd (bJ link k.ρ)) (ps.drop i) h'=some (b,hf)/\done++b=rs/\aI X.K j done d,
   ⟨ps.length,rfl,dE _,au _,F1,k.h,[],rs,⟨B.c,B.l.g9 link⟩,Gr.refl _,e3,rfl,.nil⟩,?_⟩
  rintro i m d f C ⟨rfl,hi,I,j,h',done,b,E,u,hr,hd,M⟩
  obtain⟨wg,wst⟩:=wk aa ab j _ f C E u i;by_cases fW:i<ps.length
  ·rw[sP fW]at hr;obtain⟨⟨o,T⟩,e5,e6⟩:=bt hr;obtain⟨⟨r2,h3⟩,e7,e8⟩:=bE e6;cases e8;obtain⟨go,wy⟩:=wg ps[i] (b7 fW);refine .inr ⟨go,jf (bC I hi) (jf eZ (by decide)),λx q y=>?_⟩
   obtain⟨F2,R2,s2,b2⟩:=wy x q y;refine hb F2 k.ρ ps[i] h' T o x f q _ e5 R2 b2 λw rj H3 t R3 Y b3=>⟨ps.length-(i+1),by lia,rfl,fW,?_,t,T,done++o.toList,r2,R3,u.trans (s2.trans Y),e7,by rw[<-hd,cC],(M.mono (s2.trans Y)).append b3⟩
   rw[bK];cases w<;>simp <;> lia
  ·have e:i=ps.length:=by lia
   subst e;rw[yu]at hr;cases hr;rw[dc]at hd;subst hd;exact .inl ⟨wst (pj (au _)),bC I (gi eZ),λD hn=>BO E.c B.l u M hn e4 e2⟩
 | cl n =>
  obtain⟨a,hna,rfl⟩:=wk;refine⟨λi m d f C=>i+m=gF/\d.length<=i/\∃j h' done b,Rep X.K aa ab j ⟨bJ link k.ρ,h'⟩ f C/\Gr F1 j/\qF (bd (bJ link k.ρ)) n m i h'=some (b,hf)/\done++b=rs/\aI X.K j done d,
   ⟨gF,dZ _,au _,F1,k.h,[],rs,⟨B.c,B.l.g9 link⟩,Gr.refl _,e3,rfl,.nil⟩,?_⟩
  rintro i m d f C ⟨hm,I,j,h',done,b,E,u,hr,hd,M⟩
  cases m with
  | zero=>cases hr
  | succ m =>
   have hr:(match Hf n h' i with
    | some (some p)=>(bd (bJ link k.ρ) p h').bind λr=>(qF (bd (bJ link k.ρ)) n m (i+1) r.2).map λs=>(r.1.toList++s.1,s.2)
    | some none=>some ([],h')
    | none=>none)=some (b,hf):=hr
   have P9:i<=gF:=by lia
   cases z:Hf n h' i with
   | none=>rw[z]at hr;cases hr
   | some o =>
    obtain⟨ps,vs,ho,hq,Z⟩:=MH E (u.m n a hna) z;rw[z]at hr;cases o with
    | none =>
     cases hr;rw[dc]at hd;subst hd;refine .inl ⟨⟨vs,hq,?_⟩,bC I (gi P9),λD hn=>BO E.c B.l u M hn e4 e2⟩
     rw[<-Z.length];exact ph.mp ho.symm
    | some p =>
     obtain⟨⟨o,T⟩,e5,e6⟩:=bt hr;obtain⟨⟨r2,h3⟩,e7,e8⟩:=bE e6;cases e8;obtain⟨v,hv,bv⟩:=Z.get ho.symm;refine .inr ⟨⟨vs,v,hq,hv⟩,jf (bC I P9) (by decide),λx q ⟨hH,y⟩=>?_⟩
     subst hH;have:=y vs hq;rw[hv]at this;cases this;refine hb j k.ρ p h' T o v f q _ e5 E bv λw rj H3 t R3 Y b3=>⟨m,tw m,by lia,?_,t,T,done++o.toList,r2,R3,u.trans Y,e7,by rw[<-hd,cC],(M.mono Y).append b3⟩
     rw[bK];cases w<;>simp <;> lia
def MI(q:KG L g)(t:∀i∈L,link[i]?=some none)(h:tE X aa ab (cY cl link fi (kx g fe)) σ H Q):xj link (ME X aa ab fi) (tb1 X aa ab g fe) σ H Q :=
 xo (λF2 T p h Z o x bR H2 Q' e R2 b2 k=>by
  obtain⟨b,e1,e⟩:=bt e;obtain⟨r,u,e⟩:=bt e;obtain⟨⟨a,hh⟩,w,y⟩:=bE e;cases y;obtain⟨wR,rfl,rfl⟩:=BJ w;obtain⟨B,C⟩:=q _ _ _ e1;refine⟨F2,_,p,b,R2,b2,e1,λD H3 E d I Y J=>⟨E,b,by grind,_,u,λv M R f j m=>?_⟩⟩
  rw[J]at f m;exact k (some v) D M R ⟨f.c,(d.l.mono j).back (B.symm.trans d.l.len) rfl C t⟩ (I.trans j) (.cons m .nil)) h
def MJ(M:KG L g)(q:∀i∈L,link[i]?=some none)(h:tE X aa ab (cY cl link fi (lY g ft fe)) σ H Q):xj link (ME X aa ab fi) (tb2 X aa ab g ft fe) σ H Q :=
 xo (λF2 ρ p h h' o x bR H2 Q' e R2 b2 k=>by
  obtain⟨t,e1,e⟩:=bt e;obtain⟨r,R,e⟩:=bt e;obtain⟨u,w⟩:=M _ _ _ e1;refine⟨F2,_,p,t,R2,b2,e1,λy H3 T d B Y C=>⟨T,t,by grind,r,R,?_⟩⟩
  match r,e with
  | (.ok b,j),e =>
   intro b' Z D m f eb;cases eb;cases b with
   | true =>
    have e:=e;obtain⟨r,e5,e⟩:=bt e;obtain⟨⟨a,hh⟩,e6,e7⟩:=bE e;cases e7;obtain⟨wR,rfl,rfl⟩:=BJ e6;rw[if_pos rfl];refine⟨D,j,m,_,e5,λv H5 F5 E I J=>?_⟩
    rw[C]at E J;exact k (some v) y H5 F5 ⟨E.c,(d.l.mono (f.trans I)).back (u.symm.trans d.l.len) rfl w q⟩ (B.trans (f.trans I)) (.cons J .nil)
   | false =>
    have e:=e;cases e;rw[C]at m;exact k none y Z D ⟨m.c,(d.l.mono f).back (u.symm.trans d.l.len) rfl w q⟩ (B.trans f) .nil) h
end
def Hg{P:Program}{w:World}{H':Hp}{h1 d B:Heap}(x:mU P w H' h1)(j:∀b o,H' b=some o->∃f,B.get? b=some f)(k:B.StaysIn h1)(l:B.StaysIn d):mU P w H' d:=λa o e=>by
 have keep:∀b u g,H' b=some g->h1.get? b=some u->d.get? b=some u:=λb u g m q=>by
  obtain⟨f,c⟩:=j b g m;have:=k b f c;rw[q]at this;cases this;exact l b _ c
 refine(x a o e).yH (λb u i q=>?_) (λ_ q=>q) (λ_ _ q=>q) λ_ _ _ q=>q
 rcases i with rfl | i
 ·exact keep _ _ _ e q
 ·exact keep _ _ _ i q
def MK{l:List Env}{H H':Hp}{h h1 d B m:Heap}(u:Un (pW l) [] H H' h h1)(p:Dm H H')(r:∀b o,H' b=some o->∃c,B.get? b=some c)(i:∀b c,h.get? b=some c->H b=none->b∉pW l->B.get? b=some c)
  (f:B.StaysIn d) (t:h1.FunFrames m l) (up:h1.UpToSlots d):Un (pW l) [] H H' h d:=by
 have slot:∀b o,h.get? b=some o->H b=none->b∈pW l->∃j,d.get? b=some {o with slots:=j}:=λb o q n a=>by
  obtain⟨j,e⟩:=u.slot b o q n a (by simp)
  obtain⟨_,D,k,hd⟩:=t.mem a;rw[e]at k;cases k;obtain⟨w,x⟩:=up b _ e hd;exact⟨w,x⟩
 refine⟨λb o q n a _=>f b o (i b o q n a),λb o q n a _=>slot b o q n a,u.free,λb o q E=>?_,u.tups,u.frzs,u.tbls⟩
 cases z:H b with
 | none =>
  by_cases a:b∈pW l
  ·grind
  ·exact⟨o,f b o (i b o q z a)⟩
 | some v =>
  obtain⟨y,C⟩:=p b v z;obtain⟨c,g⟩:=r b y C;exact⟨c,f b c g⟩
def Jr{P:Program}{w:World}{H:Hp}{h:Heap}{a:Addr}{o:HO}(x:gB P w H h a o):∃b,h.get? a=some b:=by
 cases o with
 | lst xs=>obtain⟨_,_,_,_,e⟩:=x;exact⟨_,e⟩
 | aq xs=>obtain⟨_,_,_,b,e,_⟩:=x;exact⟨_,e⟩
 | dK c=>obtain⟨_,_,_,_,o,_,_,e,_⟩:=x;exact⟨_,e⟩
 | dT c=>obtain⟨_,_,o,_,_,e,_⟩:=x;exact⟨_,e⟩
 | set S n=>obtain⟨o,_,_,_,e,_⟩:=x;exact⟨_,e⟩
 | kP C d fs=>obtain⟨_,_,_,e,_⟩:=x;exact⟨_,e⟩
 | own y=>obtain⟨_,e⟩:=x;exact⟨_,e⟩
 | xd fs=>obtain⟨_,⟨_,_,_,e,_⟩,_⟩:=x;exact⟨_,e⟩
 | rng lo g=>obtain⟨_,_,_,e⟩:=x;exact⟨_,e⟩
 | qy b u=>obtain⟨e,_⟩:=x;exact⟨_,e⟩
 | Eh q=>obtain⟨_,e,_⟩:=x;exact⟨_,e⟩
 | met f y=>exact⟨_,show h.get? a=some _ from x⟩
 | ext i=>obtain⟨_,⟨_,e⟩,_⟩:=x;exact⟨_,e⟩
section
variable {P:Program} {w:World} {K:W.Frag} {mg:Str->Option Value} {base:Heap} {N:List Str} {qual:Str} {scope:Scope} {f:Addr} {cd:Value} {A:Around} {aB:List Env} {s:Shared} {H:Hp} {E E1:XK} {ae:List (Addr×Obj)} {σ:St} {H1:Hp} {s1 s':Shared} {e:Value}
def Hh(I:Inv (fV (jE P w) P w K mg base N qual scope f cd A aB s H E) ae σ H1 s1){b:Addr}{a:Obj}(q:s.heap.get? b=some a)(c:b∉pW aB):b∉pW (envOfC qual scope s.heap.objs.size f cd::aB):=λd=>by
 rcases aW.mp (I.yJ b d)with z | z
 ·exact absurd (br q) (by rw[z];exact gR _)
 ·exact c z
def BP(I:Inv (fV (jE P w) P w K mg base N qual scope f cd A aB s H E) ae σ H1 s1)(h:jE P w (envOfC qual scope s.heap.objs.size f cd::aB) H1 s1 E1 e s')(m:∀c d,E1 c none d->Dm H d/\E c none d) :
  (fV (jE P w) P w K mg base N qual scope f cd A aB s H E).xe e s':=by
 obtain⟨a,c,u,B,d,rfl,t,i,un,j,y,he,o,p,v⟩:=h;obtain⟨k,m⟩:=m c d he;have x:=I.TK t un j i (λb z=>absurd z (by simp))
 refine wpAny_leaves_onW I.ok.frames rfl o λC r up=>?_
 have l:∀b g,s.heap.get? b=some g->H b=none->b∉pW aB->B.get? b=some g:=λb g q n i=>v b g (I.base.keep b g q n i (by simp[fV])) (I.base.free b g q n (by simp[fV])) (Hh I q i)
 exact⟨a,c,u,B,d,rfl,t.trans I.os,i,MK x.base k p l r.1 o.2.2.1.2.2 up,Hg j p o.1 r.1,k,m,r,p,l⟩
def Hj{h1:Heap}{a:Addr}{d:Value}{vs:List Value}(I:Inv (fV (jE P w) P w K mg base N qual scope f cd A aB s H E) ae σ H1 s1)(i:Heap.MadeExcOf s1.heap h1 a d vs)(j:Dm H H1)(r:E d none H1) :
  (fV (jE P w) P w K mg base N qual scope f cd A aB s H E).xe (.ref a) {s1 with heap:=h1}:=by
 have k:∀b o,H1 b=some o->∃c,(W.hideAll s1.heap (pW (envOfC qual scope s.heap.objs.size f cd::aB))).get? b=some c:=λb o e=>by
  obtain⟨c,q⟩:=Jr (I.hok b o e);exact⟨c,W.hideAll_get _ q λg=>by
   have:=I.yK b g;rw[e]at this;cases this⟩
 have p:∀b c,s.heap.get? b=some c->H b=none->b∉pW aB->(W.hideAll s1.heap (pW (envOfC qual scope s.heap.objs.size f cd::aB))).get? b=some c:=λb c q n g =>
  W.hideAll_get _ (I.base.keep b c q n g (by simp[fV])) (Hh I q g)
 refine wpAny_leaves_madeW I.ok.frames rfl (λb o q=>W.of_hideAll _ q) (W.funFrames_hide I.stack λl he b g=>td.mpr ⟨l,he,g⟩) i λu t m aq v up=>?_
 refine⟨a,d,.ref t,_,H1,rfl,I.os,I.bare,MK (I.base.trans (Un.kept i.keeps)) j k p m.1 (I.funs.of_keeps λb o q _=>⟨o,i.keeps b o q,rfl⟩) up,Hg (I.hok.kept i.keeps) k (λb o q=>i.keeps b o (W.of_hideAll _ q)) m.1,j,r,m,k,p⟩
end
def E4(K:W.Frag)(f:Addr)(b:Value):Prop:=∃c d a e,K.lookup f=some ⟨c,d,.func a,e⟩/\a.code=b
def RX{P:Program}{w:World}{K:W.Frag}{e:Str->Option Value}{a:Heap}{x qual:Str}{st:Stmt}{f:Addr}{g:FuncData}{N ps:List Str}{k:Nat}{c:Sp}(F:Ei K x qual st f g)(S:dP N ps (ay st))(len:∀vs H Q E,c vs H Q E->vs.length=ps.length)
  (hbody:∀(b:Value) (A:Around) (d:List Env) (s:Shared) (H:Hp) (vs:List V) (Q:VK) (E:XK),E4 K f b->dW k (A.deeper (envOfC qual (ay st) s.heap.objs.size f b))->c vs H Q E ->
   ∃t,PSs (fV (jE P w) P w K e a N qual (ay st) f b A d s H E) (dD st) t/\t {nx:=λ_ H'=>Q .cf H',rt:=Q} (start N vs) H):FnOk P w K e a (jE P w) (k+1) f g ps c:=by
 obtain⟨j,l,kV,m,r,u,b,ct,o,rfl,i,p⟩:=F.ex;exact GL i p S len λA d s H vs Q E hr q=>hbody b A d s H vs Q E ⟨j,l,_,o,i,rfl⟩ hr q
def rE(H:Hp)(a:List Addr):Hp:=λb=>if b∈a then none else H b
section
variable {K:W.Frag} {aa H H':Hp} {ab F F':Fz} {h h':List aE}
def Js{a:List Addr}{b:Addr}{o:HO}(e:rE H a b=some o):H b=some o/\b∉a:=by
 unfold rE at e;split at e
 ·cases e
 ·grind
def Jt{a:List Addr}{b:Addr}(e:rE H a b=none):H b=none\/b∈a:=by
 unfold rE at e;split at e
 ·grind
 ·grind
def lI.enter(C:lI K aa ab F h H):lI K (rE H F.μ) F F h H/\∀b o,H b=some o->rE H F.μ b=some o\/∃n:Nat,F.μ[n]?=some b:=by
 refine⟨⟨C.sub,λb o e=>(Js e).1,Gr.refl F,λa o e=>.inl e,λn a e=>⟨if_pos (cK e),(C.new n a e).2⟩,C.hl,C.nd,C.cell⟩,λb o e=>?_⟩
 by_cases d:b∈F.μ
 ·obtain⟨n,f⟩:=px.mp d;exact .inr ⟨n,f⟩
 ·exact .inl (by unfold rE;rw[if_neg d];exact e)
def lI.leave(C:lI K aa ab F h H)(D:lI K (rE H F.μ) F F' h' H'):lI K aa ab F' h' H':=by
 have d:∀a,rE H F.μ a=none->aa a=none:=λa e=>by
  rcases Jt e with z | z
  ·exact C.keep.free z
  ·obtain⟨n,f⟩:=px.mp z;exact(C.new n a f).1
 refine⟨D.sub,λb o e=>D.keep b o ?_,C.base.trans D.base,λa o e=>?_,λn a e=>⟨d a (D.new n a e).1,(D.new n a e).2⟩,D.hl,D.nd,D.cell⟩
 ·unfold rE;rw[if_neg λg=>?_]
  ·exact C.keep b o e
  ·obtain⟨n,f⟩:=px.mp g;rw[(C.new n b f).1]at e;cases e
 ·rcases D.fresh a o e with z | z
  ·exact C.fresh a o z
  ·grind
end
abbrev rF:=List PV->List aE->Option (Rs PV×List aE)
def Xb(K:W.Frag)(d:Hp)(F:Fz)(h':List aE)(Q:VK)(E:XK):Rs PV->Prop
 | .ok p=>∀v c a,lI K d F c h' a->b6 K c p v->Q v a
 | .ex _ C=>∀b c a,lI K d F c h' a->ClsAt K C b->E b none a
def Ju(K:W.Frag)(n:Nat)(f:rF):Sp:=λd H Q E=>∃a F h ps r c,lI K a F F h H/\(∀b o,H b=some o->a b=some o\/∃n:Nat,F.μ[n]?=some b)/\aI K F ps d/\ps.length=n/\f ps h=some (r,c)/\Xb K a F c Q E r
noncomputable def gY(n:Nat)(ps:List PV):List (Option PV):=ps.map some++List.replicate (n-ps.length) none
noncomputable def abl:Rs fD×dB->Option (Rs PV×List aE)
 | (.ok (.rt p),st)=>some (.ok p,st.h)
 | (.ok .nx,st)=>some (.ok .cf,st.h)
 | (.ex m C,st)=>some (.ex m C,st.h)
 | _=>none
def dJ(fb:Gx fD)(n:Nat):rF:=λps h=>(fb ⟨gY n ps,h⟩).bind abl
def BQ{K:W.Frag}{F:Fz}{ps:List PV}{vs:List V}{N:List Str}(b:aI K F ps vs):Lc K F (gY N.length ps) (start N vs) where
 av:=λi p e=>by
  unfold gY at e;unfold start;by_cases a:i<ps.length
  ·rw[jN (by simpa using a),cw]at e
   cases z:ps[i]? with
   | none=>rw[z]at e;cases e
   | some q =>
    rw[z]at e;cases e;obtain⟨v,c,d⟩:=b.get z;refine⟨v,?_,d⟩;rw[jN (by simpa using (b.length▸a)),cw,c]
    rfl
  ·rw[sO (by simpa using a),List.getElem?_replicate]at e
   split at e<;>cases e
 len:=by unfold gY start;simp[b.length]
def Hk{K:W.Frag}{c H H':Hp}{F F':Fz}{h':List aE}(a:∀b o,H b=some o->c b=some o\/∃n:Nat,F.μ[n]?=some b)(D:lI K c F F' h' H'):Dm H H':=λb o e=>by
 rcases a b o e with z | ⟨n,d⟩
 ·exact⟨o,D.keep b o z⟩
 ·exact(D.new n b (D.base.m n b d)).2
def ML{P:Program}{w:World}{K:W.Frag}{y:Str->Option Value}{d:Heap}{x qual:Str}{st:Stmt}{f:Addr}{D:FuncData}{N ps:List Str}{k:Nat}{fb:Gx fD}(F:Ei K x qual st f D)(S:dP N ps (ay st))
  (hbody:∀(o:Value) (A:Around) (t:List Env) (s:Shared) (H:Hp) (E:XK),E4 K f o->dW k (A.deeper (envOfC qual (ay st) s.heap.objs.size f o))->∀(B:Hp) (T:Fz),
   PSs (fV (jE P w) P w K y d N qual (ay st) f o A t s H E) (dD st) (tS (fV (jE P w) P w K y d N qual (ay st) f o A t s H E) B T fb)):FnOk P w K y d (jE P w) (k+1) f D ps (Ju K ps.length (dJ fb N.length)):=by
 refine RX F S (by rintro J H Q E ⟨_,_,_,_,_,_,_,_,b,L,_⟩;rw[<-b.length];exact L) λo A t s H J Q E X hr Y=>?_
 obtain⟨B,F,h,as,r,h',C,i,b,L,Z,res⟩:=Y;refine⟨_,hbody o A t s H E X hr B F,F,⟨gY N.length as,h⟩,⟨C,BQ b⟩,?_⟩;obtain⟨q,e1,u⟩:=bt Z;refine⟨q,e1,?_⟩;rcases q with⟨f | ⟨m,c⟩,st⟩
 ·cases f with
  | rt=>cases u;exact λv j p C' g b'=>res v j p C' b'
  | nx=>cases u;exact λj M p R g=>res .cf j p R.c (dQ.mpr rfl)
  | _=>cases u
 ·cases u;cases m with
  | true=>exact λj M p ae s1 h1 a l J R sf I hc hm=>Hj I hm (Hk i R.c) (res l j p R.c hc)
  | false=>exact λM ae H1 s1 e s' I h=>BP I h (by rintro l H2 ⟨hc,j,R,sf⟩;exact⟨Hk i R.c,res l j H2 R.c hc⟩)
mutual
def noRef:PV->Bool
 | .ref _=>false
 | .nd _ ps=>ah ps
 | _=>true
def ah:List PV->Bool
 | []=>true
 | p::ps=>noRef p&&ah ps
end
section
variable {K:W.Frag} {F:Fz} {μ:List Addr}
mutual
theorem b6.any:∀{p:PV} {v:V},noRef p=true->b6 K F p v->b6 K ⟨F.F,μ⟩ p v
 | .cf,_,_,b=>dQ.mpr (dQ.mp b)
 | .bl _,_,_,b=>cx.mpr (cx.mp b)
 | .int _,_,_,b=>aN.mpr (aN.mp b)
 | .str _,_,_,b=>di.mpr (di.mp b)
 | .fn _,_,_,b=>uu.mpr (uu.mp b)
 | .ref _,_,h,_=>by simp[noRef]at h
 | .nd k ps,_,h,b=>by
  obtain⟨a,c,d,e,f⟩:=jT.mp b;exact jT.mpr ⟨a,c,d,e,aI.any h f⟩
theorem aI.any:∀{ps:List PV} {vs:List V},ah ps=true->aI K F ps vs->aI K ⟨F.F,μ⟩ ps vs
 | [],_,_,b=>by rw[b.c6];exact .nil
 | _::_,_,h,b=>by
  simp only[ah,aY]at h;obtain⟨v,r,rfl,a,b2⟩:=b.cD;exact .cons (a.any h.1) (aI.any h.2 b2)
end
end
def we(h:List aE):Nat->PV->Option PV
 | 0,p=>if noRef p=true then some p else none
 | n+1,p=>if noRef p=true then some p else match p with
  | .ref m=>(h[m]?).bind λc=>if live c=true then(c9 (we h n) c.ps).map (.nd c.k)else none
  | .nd k ps=>(c9 (we h n) ps).map (.nd k)
  | _=>none
open Classical in
noncomputable def lZ (F:Fz) (h:List aE) (H:Hp):Hp:=λa=>match F.F a with
 | some o=>some o
 | none=>if(∃(n:Nat) (c:aE),F.μ[n]?=some a/\h[n]?=some c/\live c=true)then H a else none
section
variable {K:W.Frag} {aa H:Hp} {ab F:Fz} {h:List aE}
def jI{a:Addr}{o:HO}(e:F.F a=some o):lZ F h H a=some o:=by unfold lZ;rw[e]
def Jv{a:Addr}{n:Nat}{c:aE}(e:F.F a=none)(h1:F.μ[n]?=some a)(b:h[n]?=some c)(d:live c=true):lZ F h H a=H a:=by
 unfold lZ;rw[e];exact if_pos ⟨n,c,h1,b,d⟩
def BR{a:Addr}{o:HO}(e:lZ F h H a=some o):F.F a=some o\/(H a=some o/\∃n:Nat,F.μ[n]?=some a):=by
 unfold lZ at e;split at e
 ·grind
 ·split at e
  ·grind
  ·cases e
def lI.we(C:lI K aa ab F h H)(f:List Addr):∀(n:Nat) (p q:PV) (v:V),we h n p=some q->b6 K F p v->b6 K ⟨lZ F h H,f⟩ q v:=by
 have keep:∀{p:PV} {v:V},noRef p=true->b6 K F p v->b6 K ⟨lZ F h H,f⟩ p v:=λk b =>
  b6.mono (F:=⟨F.F,f⟩) (F':=⟨lZ F h H,f⟩) ⟨λb o e=>jI e,λ_ _ e=>e⟩ (b.any k)
 intro n;induction n with
 | zero =>
  intro p q v e b;obtain⟨k,rfl⟩:=aU e;exact keep k b
 | succ n ih =>
  intro p q v e b;unfold U.we at e;split at e
  ·grind
  ·have list:∀(ps g:List PV) d,c9 (U.we h n) ps=some g->aI K F ps d->aI K ⟨lZ F h H,f⟩ g d:=by
    intro ps;induction ps with
    | nil=>intro g d e b;cases e;rw[b.c6];exact .nil
    | cons p ps l =>
     intro g d e b;obtain⟨y,r,e1,i,rfl⟩:=gG e;obtain⟨v,w,rfl,x,b2⟩:=b.cD;exact .cons (ih p y v e1 x) (l r w i b2)
   split at e
   ·obtain⟨c,e1,e⟩:=bt e;obtain⟨u,e⟩:=bP e;obtain⟨g,i,rfl⟩:=bE e;obtain⟨a,j,m⟩:=eA.mp b;obtain⟨hF,d,t,B⟩:=C.cell _ c a e1 j u;exact jT.mpr ⟨a,d,m,t.to (λb o e=>jI e) (λo e=>by rw[show(Fz.mk (lZ F h H) f).F a=lZ F h H a from rfl,Jv hF j e1 u];exact e) (λz=>by cases z),list _ _ _ i B⟩
   ·obtain⟨g,i,rfl⟩:=bE e;obtain⟨a,d,j,m,t⟩:=jT.mp b;exact jT.mpr ⟨a,d,j,m.to (λb o e=>jI e) (λo e=>jI e) id,list _ _ _ i t⟩
   ·cases e
end
section
variable {X:Cx} {aa:Hp} {ab:Fz} {e:Expr} {es:List Expr} {ts:Gx (List PV)} {pos p:Pos} {k n:Nat} {f:Addr} {fd:FuncData} {ps:List Str} {x:Str} {g:rF}
def se{CX:Ky}{i:Sp}{E:XK}{j:List (Addr×Obj)}{l:St}{H:Hp}{s:Shared}{Q:VK}{a:List Value}{vs:List V}(F:FnOk X.prog X.w X.K X.mg X.base CX k f fd ps i)(hr:dW k X.A)(m:gZ X.K fd ps [])(o:∀e d,CX X.stack H s E e d->X.xe e d)
  (I:Inv X j l H s) (r:Vals vs a) (h:i vs H Q E):wpAny (model X.prog X.w) X.A (call (.ref f) a) (EP X j l Q) X.xe s:=by
 have b:=m s a I.tZ (by rw[dc,<-r.length];exact F.len _ _ _ _ h)
 rw[dc]at b;refine tO (kJ (F.run X.A X.stack s H ⟨a,[]⟩ a vs Q E hr I.PM b r h) λr d c=>?_)
 cases r with
 | error e=>exact o e d c
 | ok q =>
  cases q with
  | ret u=>exact I.after c
  | next=>exact False.elim c
  | brk=>exact False.elim c
  | cont=>exact False.elim c
noncomputable def abm:Rs PV->Rs PV
 | .ok p=>.ok p
 | .ex _ C=>.ex false C
def k8(h:List aE)(p:PV):Option PV:=if h.isEmpty=true then some p else we h 4 p
def Xc(st:dB):Rs PV×List aE->Option (Rs PV×dB)
 | (.ok p,h)=>(k8 h p).map λq=>(.ok q,st)
 | (.ex _ C,_)=>some (.ex false C,st)
def E5(n:Nat)(g:rF)(as:List PV):Gx PV:=λa=>if as.length=n then(g as a.h).map λr=>(abm r.1,⟨a.ρ,r.2⟩)else none
def qb(n:Nat)(g:rF)(as:List PV):Gx PV:=λa=>if as.length=n/\(a.h.isEmpty || ah as)=true then(g as []).bind (Xc a)else none
def Ul(n:Nat)(g:rF)(ts:Gx (List PV)):Gx PV:=bnd ts (qb n g)
def RY(X:Cx)(f:Addr)(w:List PV->Gx PV):Prop:=∀(aa H:Hp) (ab F:Fz) (st:dB) (σ:St) (a:List (Addr×Obj)) (s:Shared) (Q:VK) (as:List PV) (us:List Value) (b:List V),Inv X a σ H s->Rep X.K aa ab F st σ H->aI X.K F as b->Vals b us->Tx X aa ab (b6 X.K) F st (w as) σ Q ->
 wpAny (model X.prog X.w) X.A (call (.ref f) us) (EP X a σ Q) X.xe s
def afC(G:FnOk X.prog X.w X.K X.mg X.base (jE X.prog X.w) k f fd ps (Ju X.K n g))(hr:dW k X.A)(o:gZ X.K fd ps []):RY X f (E5 n g):=by
 rintro aa H ab F st σ t s Q as us T I R b r ⟨q,e1,u⟩
 obtain⟨y,e1⟩:=bP e1;obtain⟨⟨rs,B⟩,E,L⟩:=bE e1;subst L;obtain⟨C,a⟩:=R.c.enter;cases rs with
 | ok Y=>exact se G hr o (λe d i=>Bw t σ H s e d I i) I r ⟨_,F,st.h,as,_,B,C,a,b,y,E,λv j J D M=>u v J j ⟨R.c.leave D,R.l.mono D.base⟩ D.base M⟩
 | ex m c=>exact thn (se (Q:=λ_ _=>False) G hr o (λe d i=>u σ t H s e d I i) I r ⟨_,F,st.h,as,_,B,C,a,b,y,E,λN j J D hc=>⟨hc,j,⟨R.c.leave D,R.l.mono D.base⟩,D.base⟩⟩) (by rintro v s3 ⟨_,_,_,_,z⟩;exact z.elim)
def Rep.back{K:W.Frag}{aa H i H':Hp}{ab F F':Fz}{j:List Addr}{st:dB}{σ:St}{h':List aE}(R:Rep K aa ab F st σ H)(d:cX H i)(D:lI K i ⟨F.F,j⟩ F' h' H'):Rep K aa ab ⟨lZ F' h' H',F.μ⟩ st σ H'/\Gr F ⟨lZ F' h' H',F.μ⟩:=by
 have g:cX F.F (lZ F' h' H'):=λb o e=>jI (D.base.s b o e)
 refine⟨R.after (d.trans D.keep) g rfl (λb o e=>?_) (λa o e=>?_),g,λ_ _ z=>z⟩
 ·rcases BR e with z | ⟨z,_⟩
  ·exact D.sub b o z
  ·exact z
 ·rcases BR e with z | ⟨_,n,z⟩
  ·exact(D.fresh a o z).imp_right d.free
  ·exact .inr (d.free (D.new n a z).1)
def lI.pure{K:W.Frag}{aa H:Hp}{ab F:Fz}{h:List aE}(C:lI K aa ab F h H):lI K H ⟨F.F,[]⟩ ⟨F.F,[]⟩ [] H :=
 ⟨C.sub,cX.refl H,Gr.refl _,λa o e=>.inl e,λn a e=>by simp at e,rfl,mR,λn c a e=>by simp at e⟩
def MM{K:W.Frag}{H H':Hp}{G F':Fz}{h':List aE}{p q:PV}{v:V}(c:List Addr)(D:lI K H G F' h' H')(e:k8 h' p=some q)(b:b6 K F' p v):b6 K ⟨lZ F' h' H',c⟩ q v:=by
 unfold k8 at e;split at e
 ·rename_i z;cases e;have d:F'.μ=[]:=mJ (by rw[<-D.hl,yv.mp z];rfl)
  exact b.mono ⟨λb o e=>jI e,λn a e=>by rw[d]at e;simp at e⟩
 ·exact D.we c _ _ _ _ e b
def xp{K:W.Frag}{aa H:Hp}{ab F:Fz}{st:dB}{i:St}{as:List PV}{vs:List V}(R:Rep K aa ab F st i H)(j:(st.h.isEmpty || ah as)=true)(b:aI K F as vs)(d:List Addr):aI K ⟨F.F,d⟩ as vs:=by
 rcases Ec _ _▸j with z | z
 ·have l:F.μ=[]:=mJ (by rw[<-R.c.hl,yv.mp z];rfl)
  exact aI.mono (F:=F) (F':=⟨F.F,d⟩) ⟨cX.refl _,λn a e=>by rw[l]at e;simp at e⟩ b
 ·exact b.any z
def abn(G:FnOk X.prog X.w X.K X.mg X.base (jE X.prog X.w) k f fd ps (Ju X.K n g))(hr:dW k X.A)(t:gZ X.K fd ps []):RY X f (qb n g):=by
 rintro aa H ab F st σ u s Q as us vs I R b r ⟨q,e1,y⟩
 obtain⟨⟨B,N⟩,e1⟩:=bP e1;obtain⟨⟨rs,C⟩,E,J⟩:=bt e1;have a:∀b o,H b=some o->H b=some o\/∃n:Nat,(Fz.mk F.F []).μ[n]?=some b:=by grind
 have L:=xp R N b [];cases rs with
 | ok p' =>
  obtain⟨p2,T,Y⟩:=bE J;subst Y;refine se G hr t (λe d i=>Bw u σ H s e d I i) I r ⟨H,⟨F.F,[]⟩,[],as,_,C,R.c.pure,a,L,B,E,λv Z M D b'=>?_⟩
  obtain⟨j,l⟩:=R.back (cX.refl _) D;exact y v M _ j l (MM F.μ D T b')
 | ex m c =>
  cases J;refine thn (se (Q:=λ_ _=>False) G hr t (λe d i=>y σ u H s e d I i) I r ⟨H,⟨F.F,[]⟩,[],as,_,C,R.c.pure,a,L,B,E,λcls Z M D hc=>?_⟩) (by rintro v s3 ⟨_,_,_,_,z⟩;exact z.elim)
  obtain⟨j,l⟩:=R.back (cX.refl _) D;exact⟨hc,_,j,l⟩
def Xd{w:List PV->Gx PV}(G:RY X f w)(i:Gl X x)(j:X.mg x=some (.ref f))(hk:W.keepIn X.K (.ref f)=true)(l:PA X (e::es) (tA X aa ab ts))(m:(x==("__debug__":Str))=false)
  (he:starEach (e::es) X.env=(false,eval e X.env)::starEach es X.env) (o:(backTo pos (starEach es X.env)).any (·.1)=false):PE X (.Call (.Name x p) (e::es) [] pos) (tE X aa ab (bnd ts w)):=by
 rintro q s σ H Q I ⟨F1,st,R,h⟩
 refine kD (ld_glob I i j ?_ m);exact W.callWith_K I.ok.mod.kin hk (thn (l pos q s σ H (λb c=>∃F2 a as,Rep X.K aa ab F2 a σ c/\aI X.K F2 as b/\Tx X aa ab (b6 X.K) F2 a (w as) σ Q) I
  ⟨F1,st,R,h.bnd λas b F2 a c R2 u b2 t=>⟨F2,a,as,R2,b2,t⟩⟩) (by rintro us s1 ⟨b,c,d,r,F2,a,as,R2,b2,z⟩;exact⟨d.tZ,G _ _ _ _ _ _ _ _ _ _ _ _ d R2 b2 r z⟩)) he o
end
def abo(T:String):Kd->Bool
 | .lst=>T=="list"
 | .gU _ _=>T=="dict"
 | _=>false
def tyG(T:String)(p:PV):Gx Unit:=hp λh=>(cO h p).bind λq=>if abo T q.1=true then some ()else none
section
variable {X:Cx} {aa:Hp} {ab:Fz} {e o:Expr} {es:List Expr} {fo fe:Gx PV} {ts:Gx (List PV)} {pos tP lU:Pos} {T id:String} {name:Str} {r:V->List V->Hp->VK->Prop}
def Rep.tyV{K:W.Frag}{st:dB}(R:Rep K aa ab F st σ H)(e:cO st.h p=some (k,ps))(ht:abo T k=true)(b:b6 K F p v):L2.tyV K T v H:=by
 obtain⟨a,g,rfl,d,i⟩:=R.at e b
 match k,ht,d with
 | .lst,ht,d=>exact .inl ⟨bu ht,g,lF.sq d⟩
 | .gU false ks,ht,⟨f,d,_⟩=>exact .inr (.inr (.inl ⟨bu ht,.inl ⟨f,d⟩⟩))
 | .gU true ks,ht,⟨xs,d,_⟩=>exact .inr (.inr (.inl ⟨bu ht,.inr ⟨xs,d⟩⟩))
def zD(T:String)(w:PV->List PV->Gx PV)(fo:Gx PV)(ts:Gx (List PV)):Gx PV:=bnd fo λp=>bnd (tyG T p) λ_=>bnd ts λas=>w p as
def WdT(X:Cx)(r:V->List V->Hp->VK->Prop)(w:PV->List PV->Gx PV):Prop:=∀(aa H:Hp) (ab F:Fz) (st:dB) (σ:St) (p:PV) (as:List PV) (v:V) (ws:List V) (Q:VK),Tx X aa ab (b6 X.K) F st (w p as) σ Q->Rep X.K aa ab F st σ H->b6 X.K F p v->aI X.K F as ws->r v ws H Q
def zE(hw:WdT X r w)(h:tE X aa ab (zD T w fo ts) σ H Q):tBM X.K T r (tE X aa ab fo) (tA X aa ab ts) σ H Q:=by
 obtain⟨F,d,R,h⟩:=h;refine⟨F,d,R,h.bnd λp v F1 f q b t c g=>?_⟩
 obtain⟨u,e,z⟩:=At.hp (At.bnd g);obtain⟨⟨k,ps⟩,e1,i⟩:=bt e;obtain⟨hk,_⟩:=aU i;refine⟨b.tyV e1 hk c,F1,f,b,Tx.bnd z λas ws F2 a j R2 l b2 m=>hw aa j ab F2 a σ p as v ws Q m R2 (c.mono l) b2⟩
def RZ(hw:WdT X r w)(h:tE X aa ab (zD T w fo (aV [])) σ H Q):aai X.K T r (tE X aa ab fo) σ H Q:=by
 obtain⟨F,c,R,h⟩:=h;refine⟨F,c,R,h.bnd λp v F1 d f a j b g=>?_⟩
 obtain⟨u,e,z⟩:=At.hp (At.bnd g);obtain⟨⟨k,ps⟩,e1,i⟩:=bt e;obtain⟨hk,_⟩:=aU i;exact⟨a.tyV e1 hk b,hw aa f ab F1 d σ p [] v [] Q (At.aV (At.bnd z)) a b .nil⟩
def zF(a:EW X.K r g):WdT X r (k0 g):=λ_ _ _ _ _ _ _ _ _ _ _ h R b c=>Tx.mut a h R b c
def Xe:WdT X (W2 X.K) wb:=λ_ _ _ _ _ _ _ _ _ _ _ h R a b=>Tx.ext h R a b
def Hl(m:Str):Option (String×(PV->List PV->Gx PV)) :=
 if m==("append":Str)then some ("list",k0 (iB wa))
 else if m==("extend":Str)then some ("list",wb)
 else if m==("insert":Str)then some ("list",k0 (iB Mt))
 else if m==("setdefault":Str)then some ("dict",k0 Jm)
 else none
def E6(m:Str):Option (String×(PV->List PV->Gx PV)) :=
 if m==("reverse":Str)then some ("list",k0 (iB RH))
 else if m==("pop":Str)then none
 else if m==("clear":Str)then none
 else none
def afD(ht:Hl name=some (T,w))(ho:PE X o (tE X aa ab fo))(b:PA X (e::es) (tA X aa ab ts))(c:attributeBase o name X.env (eval o X.env)=eval o X.env)
  (d:((backTo lU (starEach (e::es) X.env)).all (λx=>!x.1)&&(backToKw lU (keywordEach [] X.env)).all (λx=>x.1.isSome)&&decide ((e::es).length+([]:List Keyword).length+(if([]:List Keyword).isEmpty then 0 else 1)<30))=true)
  (f:(tP.endLine==lU.line)=true) (g:starEach (e::es) X.env=(false,eval e X.env)::starEach es X.env) (i:(backTo lU (starEach es X.env)).any (·.1)=false):PE X (.Call (.Attribute o name tP) (e::es) [] lU) (tE X aa ab (zD T w fo ts)):=by
 unfold Hl at ht;split at ht
 ·rename_i a;cases ht;have a:=bu a;subst a;exact(GR yd PySem.F.slot_list_append PySem.F.type_list_append IM ho b c d f g i).imp λ_ _ _ h=>zE (zF RG) h
 ·split at ht
  ·rename_i a;cases ht;have a:=bu a;subst a;exact(GR yd PySem.F.slot_list_extend PySem.F.type_list_extend W3 ho b c d f g i).imp λ_ _ _ h=>zE Xe h
  ·split at ht
   ·rename_i a;cases ht;have a:=bu a;subst a;exact(GR yd PySem.F.slot_list_insert PySem.F.type_list_insert Jl ho b c d f g i).imp λ_ _ _ h=>zE (zF RJ) h
   ·split at ht
    ·rename_i a;cases ht;have a:=bu a;subst a;exact(GR PySem.F.plainAttrs_dict KY PySem.F.type_dict_setdefault WZ ho b c d f g i).imp λ_ _ _ h=>zE (zF RK) h
    ·cases ht
def abp(ht:E6 name=some (T,w))(ho:PE X o (tE X aa ab fo))(b:attributeBase o name X.env (eval o X.env)=eval o X.env)(c:(tP.endLine==lU.line)=true) :
  PE X (.Call (.Attribute o name tP) [] [] lU) (tE X aa ab (zD T w fo (aV []))):=by
 unfold E6 at ht;split at ht
 ·rename_i a;cases ht;have a:=bu a;subst a;exact(LX yd PySem.F.slot_list_reverse PySem.F.type_list_reverse EF ho b c).imp λ_ _ _ h=>RZ (zF RI) h
 ·grind
def BS(f b d:PV):dB->Option dB:=λa=>(zu a.h f).bind λc=>match c.2.k with
 | .lst=>(oh b).bind λi=>(P1 c.2.ps.length i).map λj=>⟨a.ρ,a.h.set c.1 ⟨.lst,c.2.ps.set j d⟩⟩
 | .gU t ks=>(iW t b).bind λk=>if ks.length<gF then some ⟨a.ρ,a.h.set c.1 (oo t k d ks c.2.ps)⟩else none
 | _=>none
def afE(K:W.Frag):Lv:=λo i v H Q=>∃aa ab F a b c d f g,BS c d f a=some g/\Rep K aa ab F a b H/\b6 K F c o/\b6 K F d i/\b6 K F f v/\∀j k,Rep K aa ab k g b j->Gr F k->Q j
def abq(hu:X.A.units+1150<cLine):Lw X (afE X.K):=by
 rintro y s σ H o i v B C u Q I D E J ⟨aa,ab,F,st,τ,po,pi,pv,aF,e,R,bo,bi,bv,k⟩
 obtain⟨⟨n,c⟩,e1,Z⟩:=bt e;clear e;have e:=Z;clear Z;obtain⟨rfl,hc,p⟩:=lL e1;obtain⟨a,q,rfl⟩:=eA.mp bo;obtain⟨_,vs,d,f⟩:=R.c.cell n c a hc q p;split at e
 ·rename_i hk;obtain⟨j,w,e⟩:=bt e;obtain⟨m,e3,rfl⟩:=bE e;rw[gH w]at bi;have hk:=hk;rw[hk]at d;refine LV y s σ H _ _ v B C u Q I D E J ⟨a,vs,j,m,rfl,aN.mp bi,d,by rw[<-f.length];exact e3,k _ F (R.put hc p q aK (f.set bv m)) (Gr.refl _)⟩
 ·rename_i t ks hk;have hk:=hk;obtain⟨kk,w,e⟩:=bt e;obtain⟨hz,rfl⟩:=aU e;rw[hk]at d;cases t with
  | false =>
   obtain⟨b,L,x,M⟩:=d;obtain⟨j,rfl,rfl⟩:=kZ w bi;rw[<-M]at f;obtain⟨AO,DI,g,N,Y⟩:=Mr (j:=j) bv f;have eZ:b.length<sizeLine:=by
    have:ks.length=b.length:=by grind
    exact b8 (by grind) (gi (au _))
   rw[x]at g;refine W4 y s σ H _ _ v B C u Q I D E J ⟨a,b,j,rfl,rfl,L,eZ,k _ F ?_ (Gr.refl _)⟩;simp only[g];exact R.put hc p q ⟨_,aK,N,rfl⟩ Y
  | true =>
   obtain⟨xs,L,x,M,g4⟩:=d;obtain⟨cc,rfl,l⟩:=oq w bi;refine W5 (by lia) y s σ H _ _ v B C u Q I D E J ⟨a,cc,xs,kk,rfl,rfl,L,λz hz=>bQ R.sub (x z hz),bQ R.sub l,(by
    have:ks.length=xs.length:=by grind
    exact b8 (by grind) (gi (au _))),λr hr=>?_⟩
   obtain⟨AO,DI,yZ,g,N,Y,p4,p5⟩:=WX bv hr l x f g4;rw[M]at g;refine k _ F ?_ (Gr.refl _);simp only[g];exact R.put hc p q ⟨_,aK,Y,N,p5⟩ p4
 ·cases e
def R0(a fo fi:Gx PV):Gx fD:=bnd a λv=>bnd fo λo=>bnd fi λi=>stp (BS o i v)
def abr(g:X.A.units+1150<cLine)(he:PE X e (tE X aa ab j))(ho:PE X o (tE X aa ab fo))(l:PE X k (tE X aa ab fi))
  (m:∀v,assign (.Subscript o k a) X.env v=(do
   let b <-holding [v] (eval o X.env)
   let c <-holding [v,b] (eval k X.env)
   standAt a
   holding [v,b,c] (setItem b c v)
   release [v,b,c] []))
  (p:swapsWithSole [.Subscript o k a] e pos.line X.env=pure false) (hw:swappedStores [.Subscript o k a] e X.env=pure none):PS X (.Assign [.Subscript o k a] e pos) (tS X aa ab (R0 j fo fi)) :=
 (Ly he (VM ho l (abq g) m) p hw rfl).imp λD σ H ⟨F,st,R,h⟩=>⟨F,st,R,h.bnd λq v F1 t H1 u g1 w x=>⟨F1,t,u,x.bnd λy o F2 d H2 R2 B b2 C=>⟨F2,d,R2,C.bnd λE i I J H3 L f M N=>by
  obtain⟨Q,e,z⟩:=N.stp;exact⟨aa,ab,I,J,σ,y,E,q,Q,e,L,b2.mono f,M,w.mono (B.trans f),λY Z R' g'=>z Z σ Y R' g'⟩⟩⟩⟩
def MN(t:Bool):Gx PV:=mZ ⟨.gU t [],[]⟩
def abt(t:Bool):PE X (.Dict [] [] pos) (tE X aa ab (MN t)):=by
 cases t with
 | false=>exact Ms.imp (by rintro σ H Q ⟨F,st,R,h⟩ p hp;exact Tx.mZ h R hp ⟨[],aK,rfl,rfl⟩ .nil)
 | true=>exact QY.imp (by rintro σ H Q ⟨F,st,R,h⟩ p hp;exact Tx.mZ h R hp ⟨[],aK,(λ_ z=>nomatch z),rfl,.nil⟩ .nil)
end
def Hm(K:W.Frag)(b:Str->Option Value)(P:Params)(T:Str)(rows:List (Str×Str)):Prop :=
 ∃a c n,b T=some (.ref a)/\K.lookup a=some ⟨.type "dict",none,.dict c n,#[]⟩/\W.KeysLit P c.toList/\∀k fn,rows.lookup k=some fn->∃f,W.nsIn K a k=some (some (.ref f))/\b fn=some (.ref f)/\W.nsIn K mainGlobals fn=some (some (.ref f))
def afF(K:W.Frag)(a:Addr):R2:=λx y H Q=>∃k u v,x=.ref a/\y=.str k/\W.nsIn K a k=some (some u)/\RelV v u/\Q v H
def Xf:PV->Option Str | .str x=>some x | _=>none
def Jw(h:Xf p=some i):p=.str i:=by
 cases p<;>first | (cases h;rfl) | cases h
section
variable {X:Cx} {aa:Hp} {ab:Fz} {e ke:Expr} {es:List Expr} {fk fe ff:Gx PV} {ts:Gx (List PV)} {pos p sp:Pos} {T:Str}
def Xg{es:Array DictEntry}(b:X.K.lookup a=some ⟨.type "dict",none,.dict es n,#[]⟩)(hk:W.KeysLit X.w.params es.toList):Zd X (afF X.K a):=by
 rintro value slice m s σ H x y v u Q I d f ⟨k,o,g,ex,i,e,j,q⟩ l
 subst ex i;cases d;obtain⟨t,rfl⟩:=f;have c:=W.mapOf_K (prog:=X.prog) I.tZ b hk;exact tail_any c.typeIs slot_dict_getitem.lookup (wpAny_getItem_of (strKind_is X.prog X.w k t) c (W.find_K b e) ⟨g,H,I.tok _,j,q⟩) l
def MO(PF:Str->Option PV)(fk:Gx PV):Gx PV:=bnd fk λq=>lV ((Xf q).bind PF)
def abu(ht:Hm X.K X.mg X.w.params T rows)(c:Gl X T)(hk:PE X ke (tE X aa ab fk))(d:rR ke)(g:(T==("__debug__":Str))=false):PE X (.Subscript (.Name T p) ke sp) (tE X aa ab (MO (λk=>(rows.lookup k).map .fn) fk)):=by
 obtain⟨a,D,n,i,j,l,m⟩:=ht;refine(TV (Xg j l) (GG (v:=.ref a) c i rfl g) hk d).imp λσ H Q ⟨F,st,R,h⟩=>?_
 refine⟨F,st,R,h.bnd λpk v F1 E o r I b t=>?_⟩
 obtain⟨q,e1,z⟩:=t.lV;obtain⟨k,u,x⟩:=bt e1;obtain⟨fn,y,rfl⟩:=bE x;rw[Jw u]at b;obtain⟨f,B,J,C⟩:=m k fn y;exact⟨k,.ref f,.ref f,rfl,di.mp b,B,rfl,z _ o F1 r (Gr.refl _) (uu.mpr ⟨f,rfl,C⟩)⟩
def Um(X:Cx)(a:List (Str×Nat))(call:Str->rF):Prop:=∀x n,a.lookup x=some n->∃k f b ps,FnOk X.prog X.w X.K X.mg X.base (jE X.prog X.w) k f b ps (Ju X.K n (call x))/\dW k X.A/\X.mg x=some (.ref f)/\W.keepIn X.K (.ref f)=true/\gZ X.K b ps []
def fnP:PV->Option Str | .fn x=>some x | _=>none
def MP{p:PV}(h:fnP p=some i):p=.fn i:=by
 cases p<;>first | (cases h;rfl) | cases h
def BU(a:List (Str×Nat))(call:Str->rF)(ff:Gx PV)(ts:Gx (List PV)):Gx PV:=bnd ff λq=>bnd (lV ((fnP q).bind λx=>(a.lookup x).map λn=>(x,n))) λx=>Ul x.2 (call x.1) ts
def zG(v k:Expr)(sp:Pos)(args:List Expr)(pos:Pos)(a:Env):eval (.Call (.Subscript v k sp) args [] pos) a=(do callWith pos (<-eval (.Subscript v k sp) a) [] (backTo pos (starEach args a)) (backToKw pos (keywordEach [] a))):=rfl
def R6{call:Str->rF}(C:Um X fns call)(D:∀x a,W.nsIn X.K mainGlobals x=some (some (.ref a))->X.mg x=some (.ref a))(E:PE X (.Subscript v k sp) (tE X aa ab ff))(J:PA X (e::es) (tA X aa ab ts))
  (he:starEach (e::es) X.env=(false,eval e X.env)::starEach es X.env) (L:(backTo pos (starEach es X.env)).any (·.1)=false):PE X (.Call (.Subscript v k sp) (e::es) [] pos) (tE X aa ab (BU fns call ff ts)):=by
 rintro t s σ H Q I ⟨F,st,R,h⟩
 rw[zG];refine ag (thn (E t s σ H (λv d=>∃F1 c q,Rep X.K aa ab F1 c σ d/\b6 X.K F1 q v/\Tx X aa ab (b6 X.K) F1 c (bnd (lV ((fnP q).bind λx=>(fns.lookup x).map λn=>(x,n))) λx=>Ul x.2 (call x.1) ts) σ Q) I
  ⟨F,st,R,h.bnd λq v F1 c d g g1 f i=>⟨F1,c,q,g,f,i⟩⟩) λu s1 ⟨x,d,M,N,F1,c,q,g,f,i⟩=>?_)
 obtain⟨⟨y,n⟩,e1,z⟩:=At.lV (At.bnd i);obtain⟨y',Y,Z⟩:=bt e1;obtain⟨n',e4,w⟩:=bE Z;simp only[tK]at w;obtain⟨rfl,rfl⟩:=w;rw[MP Y]at f;obtain⟨a,rfl,l⟩:=uu.mp f;obtain⟨j,f',fd,ps,G,hr,m1,m2,m3⟩:=C _ _ e4;have:=cL ((D _ a l).symm.trans m1);cases this;cases N;exact W.callWith_K I.ok.mod.kin m2 (thn (J pos t s1 σ d (λm o=>∃F2 b as,Rep X.K aa ab F2 b σ o/\aI X.K F2 as m/\Tx X aa ab (b6 X.K) F2 b (qb _ _ as) σ Q) M
  ⟨F1,c,g,Tx.bnd z λas m F2 b o R2 g2 b2 h2=>⟨F2,b,as,R2,b2,h2⟩⟩) (by rintro us s2 ⟨m,o,B,r,F2,b,as,R2,b2,z⟩;exact⟨B.tZ,abn G hr m3 _ _ _ _ _ _ _ _ _ _ _ _ B R2 b2 r z⟩)) he L
noncomputable def Hn(f:Str):List Str->List PV->Option PV
 | g::ns,p::ps=>if g=f then some p else Hn f ns ps
 | _,_=>none
def BV(f:Str)(fe:Gx PV):Gx PV:=bnd fe λp=>hp λh=>match cO h p with
 | some (.kP _ ns,ps)=>Hn f ns ps
 | _=>none
theorem BW{K:W.Frag}:∀{fs:List (Str×V)} {ps:List PV} {p:PV},Hn f (fs.map (·.1)) ps=some p->aI K F ps (fs.map (·.2))->f∈fs.map (·.1)/\∃v,fs.lookup f=some v/\b6 K F p v
 | [],_,_,h,_=>by cases h
 | (g,v)::r,[],_,h,_=>by cases h
 | (g,v)::r,q::ps,p,h,b=>by
  obtain⟨k,w,e,l,b2⟩:=b.cD;cases e;have h:(if g=f then some q else Hn f (r.map (·.1)) ps)=some p:=h
  by_cases a:g=f
  ·grind
  ·rw[if_neg a]at h;obtain⟨c,d,m,i⟩:=BW h b2;have j:(f==g)=false:=by grind
   exact⟨aM _ c,d,by grind,i⟩
def abv(he:PE X e (tE X aa ab fe))(c:attributeBase e f X.env (eval e X.env)=eval e X.env):PE X (.Attribute e f pos) (tE X aa ab (BV f fe)):=(V5 he c).imp λσ H Q ⟨F,st,R,h⟩=>⟨F,st,R,h.bnd λq v F1 E d b I g i=>by
 obtain⟨o,e,z⟩:=i.hp;split at e
 ·rename_i C J ps hd;obtain⟨a,L,rfl,⟨j,k,fs,M,l,m,r,t,u⟩,x⟩:=b.at hd g;subst t u;obtain⟨y,w,B,D⟩:=BW e x;exact⟨a,j,k,fs,w,rfl,r,l,m f y,B,z _ d F1 b (Gr.refl _) D⟩
 ·cases e⟩
noncomputable def rG(f:Str)(q:PV):List Str->List PV->List Str×List PV
 | g::ns,p::ps=>if g=f then(g::ns,q::ps)else(g::(rG f q ns ps).1,p::(rG f q ns ps).2)
 | _,_=>([f],[q])
theorem Ho{K:W.Frag}(d:b6 K F q v):∀{fs:List (Str×V)} {ps:List PV},aI K F ps (fs.map (·.2))->(jA f v fs).map (·.1)=(rG f q (fs.map (·.1)) ps).1/\aI K F (rG f q (fs.map (·.1)) ps).2 ((jA f v fs).map (·.2))/\∀g∈(rG f q (fs.map (·.1)) ps).1,g=f\/g∈fs.map (·.1)
 | [],ps,b=>by
  have e:=mJ b.length;subst e;exact⟨rfl,.cons d .nil,λg a=>.inl (by simpa[rG]using a)⟩
 | (g,w)::r,[],b=>by have:=b.length;simp at this
 | (g,w)::r,p::ps,b=>by
  obtain⟨m,o,e,j,b2⟩:=b.cD;cases e;obtain⟨k,l,t⟩:=Ho d b2;by_cases a:g=f
  ·subst a;have e1:jA g v ((g,w)::r)=(g,v)::r:=if_pos rfl;have i:rG g q (((g,w)::r).map (·.1)) (p::ps)=(g::r.map (·.1),q::ps):=if_pos rfl;rw[e1,i];exact⟨rfl,.cons d b2,λy c=>.inr c⟩
  ·have e1:jA f v ((g,w)::r)=(g,w)::jA f v r:=if_neg a;have i:rG f q (((g,w)::r).map (·.1)) (p::ps)=(g::(rG f q (r.map (·.1)) ps).1,p::(rG f q (r.map (·.1)) ps).2):=if_neg a;rw[e1,i];refine⟨by rw[aH,k],.cons j l,λy c=>?_⟩
   rcases aW.mp c with rfl | c
   ·grind
   ·grind
def MQ(K:W.Frag)(b:List Str)(a:List Str):Prop:=∀C,b.contains C=true->∃c,ClsAt K C (.ref c)/\Iw K c/\∀f,a.contains f=true->jS K c f
def afH(b a:List Str)(f:Str)(i g:PV):dB->Option dB:=λd=>(zu d.h i).bind λc=>match c.2.k with
 | .kP C ns=>if(b.contains C&&a.contains f&&decide (ns.length<900))=true then some ⟨d.ρ,d.h.set c.1 ⟨.kP C (rG f g ns c.2.ps).1,(rG f g ns c.2.ps).2⟩⟩else none
 | _=>none
def E7(b a:List Str)(f:Str)(c d:Gx PV):Gx fD:=bnd c λv=>bnd d λo=>stp (afH b a f o v)
def abw{d b:List Str}(hc:MQ X.K d b)(ho:PE X o (tE X aa ab B))(he:PE X e (tE X aa ab E))(I:swapsWith e (some (.Attribute o f J)) pos.line X.env=pure false):PS X (.Assign [.Attribute o f J] e pos) (tS X aa ab (E7 d b f E B)) :=
 (V6 ho he I).imp λD σ H ⟨F,st,R,h⟩=>⟨F,st,R,h.bnd λpv v F1 L H1 M g1 N Q=>⟨F1,L,M,Q.bnd λpo o F2 Y H2 R2 Z b2 h2=>by
  obtain⟨aF,e,z⟩:=h2.stp;obtain⟨⟨n,c⟩,e1,m⟩:=bt e;clear e;have e:=m;clear m;obtain⟨rfl,q,r⟩:=lL e1;obtain⟨a,t,rfl⟩:=eA.mp b2;obtain⟨_,vs,i,g3⟩:=R2.c.cell n c a q t r;split at e
  ·rename_i C ns hk;have hk:=hk;obtain⟨j,rfl⟩:=aU e;rw[aY,aY]at j;rw[hk]at i;obtain⟨k,u,fs,w,x,k3,k4,rfl,rfl⟩:=i;obtain⟨Cb,m1,m2,y⟩:=hc C j.1.1;have eC:k=Cb:=by
    have:=w.symm.trans m1;cases this;rfl
   subst eC;have eZ:=fJ j.2;rw[aD]at eZ;obtain⟨p1,p2,p3⟩:=Ho (N.mono Z) g3;refine⟨a,k,u,fs,rfl,k4,x,y f j.1.2,(dn ‹_›),z F2 σ _ (R2.put q r t ⟨k,u,_,w,x,λg l=>?_,aK,p1,rfl⟩ p2) (Gr.refl _)⟩
   rcases p3 g l with rfl | l
   ·exact y _ j.1.2
   ·exact k3 g l
  ·cases e⟩⟩
def afI(st:dB):Rs PV×List aE->Option (Rs PV×dB)
 | (.ok .cf,h)=>(we h 4 (.ref 0)).map λq=>(.ok q,st)
 | _=>none
def Xh(C:Str)(n:Nat)(g:rF)(ts:Gx (List PV)):Gx PV:=bnd ts λas a=>if as.length+1=n/\(a.h.isEmpty || ah as)=true then(g (.ref 0::as) [⟨.kP C [],[]⟩]).bind (afI a)else none
section
variable {C:Str} {Ca f:Addr} {fd:FuncData} {ps:List Str} {g:rF} {k n:Nat}
def R7(L:ClsAt X.K C (.ref Ca))(c:Iw X.K Ca)(h:tE X aa ab (Xh C n g ts) σ H Q):TR Ca (Ju X.K n g) [] E0 (tA X aa ab ts) σ H Q:=by
 obtain⟨F,M,R,h⟩:=h;refine⟨F,M,R,h.bnd λas N F1 bG l t g1 Y Z y j E u w=>?_⟩
 obtain⟨q,e1,x⟩:=Z;obtain⟨⟨hl,hn⟩,e1⟩:=bP e1;obtain⟨r,I,B⟩:=bt e1;have i:dj l j (.own y) y=none:=by rw[aZ w.symm];exact E
 have up:cX l (dj l j (.own y)):=gh u;have b2:aI X.K ⟨F1.F,[y]⟩ (.ref 0::as) (.ref y::N):=.cons (eA.mpr ⟨y,rfl,rfl⟩) (xp t hn Y [y]);have C0:lI X.K (dj l j (.own y)) ⟨F1.F,[y]⟩ ⟨F1.F,[y]⟩ [⟨.kP C [],[]⟩] (dj (dj l j (.own y)) y (.kP Ca j [])):=by
  refine⟨λb o e=>gh i _ _ (up _ _ (t.sub _ _ e)),gh i,Gr.refl _,λa o e=>.inl e,λm a e=>?_,rfl,by simp,λm d a e1 x I=>?_⟩
  ·cases m with
   | zero=>cases e;exact⟨i,_,aK⟩
   | succ m=>simp at e
  ·cases m with
   | zero=>cases e1;cases x;exact⟨t.sub.free E,[],⟨Ca,j,[],L,c,(λ_ z=>nomatch z),aK,rfl,rfl⟩,.nil⟩
   | succ m=>simp at e1
 match r,B with
 | (.ok .cf,h'),B =>
  obtain⟨p,e5,rfl⟩:=bE B;refine⟨_,_,_,.ref 0::as,_,h',C0,λb o e=>?_,by grind,by grind,I,λv F' H' D b'=>⟨dQ.mp b',?_⟩⟩
  ·by_cases J:b=y
   ·subst J;exact .inr ⟨0,rfl⟩
   ·rw[aZ J]at e;exact .inl e
  ·obtain⟨R3,g3⟩:=t.back up D;exact x _ H' _ R3 g3 (D.we F1.μ _ _ _ _ e5 (eA.mpr ⟨y,D.base.m 0 y rfl,rfl⟩))
end
end
def abx(X:Cx)(a:Hp)(b:Fz)(fa:Addr)(ω:PV->Gx PV):Prop:=∀(H:Hp) (F:Fz) (st:dB) (σ:St) (c:List (Addr×Obj)) (s:Shared) (Q:VK) (p:PV) (u:Value) (v:V),Inv X c σ H s->Rep X.K a b F st σ H->b6 X.K F p v->RelV v u->Tx X a b (b6 X.K) F st (ω p) σ Q ->
 wpAny (model X.prog X.w) X.A (call (.ref fa) [u]) (EP X c σ Q) X.xe s
structure BX (X:Cx) (aa:Hp) (ab:Fz) (n:Nat) (ω:PV->Gx PV):Prop where
 ex:∃fa o u aby,ab.μ[n]?=some fa/\X.aa fa=some (.qy o u)/\o.data=.func aby/\abx X aa ab fa ω
def abz(n:Nat):PV->Option Unit
 | .ref m=>if m=n then some ()else none
 | _=>none
def MR(i n:Nat)(ω:PV->Gx PV)(fe:Gx PV):Gx PV:=bnd (rd i) λq=>bnd (lV (abz n q)) λ_=>bnd fe ω
section
variable {X:Cx} {aa:Hp} {ab:Fz} {e:Expr} {fe:Gx PV} {pos p:Pos} {i n:Nat} {ω:PV->Gx PV} {y:Str}
def abA(L:BX X aa ab n ω)(hy:PE X (.Name y p) (Pf i))(B:PE X e (tE X aa ab fe))(he:starEach [e] X.env=(false,eval e X.env)::starEach [] X.env):PE X (.Call (.Name y p) [e] [] pos) (tE X aa ab (MR i n ω fe)):=by
 rintro g s σ H Q I ⟨F,st,R,h⟩
 obtain⟨d,o,u,aby,hm,C,D,L⟩:=L;refine kD (thn (T9 i hy g s σ H (λv j=>v=.ref d/\∃F1 f,Rep X.K aa ab F1 f σ j/\Tx X aa ab (b6 X.K) F1 f (bnd fe ω) σ Q) I ⟨F,st,R,h.bnd λq v F1 f j l g1 b1 E=>?_⟩) λv Y M=>?_)
 ·obtain⟨_,e1,z⟩:=At.lV (At.bnd E);cases q with
  | ref m =>
   obtain⟨rfl,_⟩:=aU e1;obtain⟨a,B,rfl⟩:=eA.mp b1;have:=l.c.base.m _ _ hm;rw[B]at this;cases this;exact⟨rfl,F1,f,l,z⟩
  | _=>cases e1
 ·obtain⟨z,j,I1,rx,rfl,F1,f,l,E⟩:=M;cases rx;have hP:∀{Z:St} {H':Hp} {N:Shared},Inv X g Z H' N->N.heap.get? d=some o:=λ{Z H' N} J=>(J.hok d _ (J.base.frzs d o u C)).1
  have hk:∀h:Heap,h.get? d=some o->∃k,(k=Keeper.frame\/k=Keeper.machine\/k=Keeper.boundFrame)/\W.Looks (model X.prog X.w) h (keeperOf (.ref d)) k:=λh ho=>by
   obtain⟨c1,c2,c3,c4⟩:=o;cases D;exact⟨.frame,.inl rfl,(W.Looks.ld ho).andThen .now⟩
  have Uo:wpAny (model X.prog X.w) X.A (spliced (backTo pos (starEach [e] X.env))) (λus t=>t.heap.get? d=some o/\wpAny (model X.prog X.w) X.A (call (.ref d) ([]++us)) (EP X g σ Q) X.xe t) X.xe Y :=
   thn ((jX B ue he) pos g Y σ j (λvs x=>∃v F2 b p,vs=[v]/\Rep X.K aa ab F2 b σ x/\b6 X.K F2 p v/\Tx X aa ab (b6 X.K) F2 b (ω p) σ Q) I1 ⟨F1,f,l,E.bnd λp v F2 b x R2 g2 b2 T=>⟨v,F2,b,p,rfl,R2,b2,T⟩⟩)
    λus t M=>by
     obtain⟨vs,x,I2,r,v,F2,b,p,rfl,R2,b2,T⟩:=M;obtain⟨u2,rfl,ru⟩:=ki r;exact⟨hP I2,L x F2 b σ g t Q p u2 v I2 R2 b2 ru T⟩
  rw[he]at Uo ⊢;exact W.callWith_of rfl hk (PySem.Calls.evalArgs_plain Uo)
end
noncomputable def afK(a:List (Option PV)):Rs PV×dB->Option (Rs PV×dB)
 | (.ok p,st)=>some (.ok p,⟨a,st.h⟩)
 | _=>none
def R8(fb:Gx PV)(a:List (Option PV)):PV->Gx PV:=λp b=>(fb ⟨some p::a,b.h⟩).bind (afK b.ρ)
def Xi(g:X.ex=[])(hL:Mc X.aa fa qual j body scope cl)(hC:mY X.s₀.heap X.aa scope cl N E)(hF:Lc X.K uH a E)(m:Gr uH B)(hr:dW (k+1) X.A)
  (hb:∀(J d M u:Value),bindArgs (W.kla_fn "<lambda>" qual j body scope cl J d M) ⟨[u],[]⟩=pure [(x,u)]) (hk:scope.kind=.function) (Ws:scope.isCoroutine=false) (Wt:scope.isGenerator=false) (hx:scope.names.lookup x=some .local) (nc:∀y∈scope.names,y.2≠.cell)
  (hbody:∀(d:Value) (s:Shared) (H T:Hp) (B:Fz),dW k (X.A.deeper (W.envX qual scope s.heap.objs.size fa d cl))->PE (T5 (jE X.prog X.w) X.prog X.w X.K X.mg X.base (x::N) qual scope fa d cl X.A X.stack s H E0) body (tE (T5 (jE X.prog X.w) X.prog X.w X.K X.mg X.base (x::N) qual scope fa d cl X.A X.stack s H E0) T B fb)):abx X T B fa (R8 fb a):=by
 rintro H F st σ ae s Q p u v I R b ru ⟨q,e1,e2⟩
 obtain⟨r,e3,D⟩:=bt e1;obtain⟨o,u',J,d,M,c,Y,uc,vs,t,k1,k2,rfl,k3,k4,k5⟩:=hL;have g1:=(I.hok fa _ (I.base.frzs fa o u' k1)).1;have g2:=(I.hok c _ (I.base.frzs c Y uc k3)).1;have C:=hC.un (by have:=I.base;rw[g]at this;exact this)
 match r,D with
 | (.ok p',aF),D =>
  cases D;have L:Lc X.K F (some p::a) (some v::E):=⟨λi y e=>by
   cases i with
   | zero=>cases e;exact⟨v,rfl,b⟩
   | succ i =>
    obtain⟨z,h1,h2⟩:=hF.av i y (by grind)
    exact⟨z,by grind,h2.mono (m.trans R.c.base)⟩,by simp[hF.len]⟩
  obtain⟨C0,_⟩:=R.c.enter;refine tO (kJ (Ra g1 k2 ⟨c,Y,vs,t,rfl,g2,k4,k5⟩ hr I.PM (hb _ _ _ _) ru hk Ws Wt hx nc C ⟨_,hbody (.ref c) s H _ F (hr.deeper _),F,⟨some p::a,st.h⟩,⟨C0,L⟩,_,e3,λv' H' F' R' Z b'=>e2 v' H' F' ⟨R.c.leave R'.c,R.l.mono Z⟩ Z b'⟩) λr s' f=>?_)
  cases r with
  | error e=>exact Bw ae σ H s e s' I f
  | ok fl =>
   cases fl with
   | ret u=>exact I.after f
   | next=>exact False.elim f
   | brk=>exact False.elim f
   | cont=>exact False.elim f
structure uI (X:Cx) (x:Str) (N:List Str) (link:List (Option Nat)) (scope:Scope):Prop where
 kind:scope.kind=.function
 co:scope.isCoroutine=false
 gen:scope.isGenerator=false
 par:scope.names.lookup x=some .local
 cell:∀y∈scope.names,y.2≠.cell
 free:∀y∈scope.names,y.2=.free->(X.env.kindOf y.1=some .cell\/X.env.kindOf y.1=some .free)
 len:link.length=N.length
 link:∀(i j:Nat) (y:Str),link[i]?=some (some j)->N[i]?=some y->X.N[j]?=some y/\scope.names.lookup y=some .free
def R9(I:Inv X M σ H s)(S:uI X x N link scope):mY s.heap H scope (k6 X.env scope.names []) N (g9 link σ) where
 inj:=λy z c e a=>I.ok.inj y z c (cu e) (cu a)
 has:=λy B=>by
  have b:=fq B;obtain⟨c,hc⟩:=I.ok.has y (S.free _ b rfl);obtain⟨f,g⟩:=k7 scope.names [] b ⟨c,hc⟩;cases z:(k6 X.env scope.names []).lookup y with
  | some p=>exact⟨p,rfl⟩
  | none=>exact absurd g (by intro k;have:=List.lookup_eq_none_iff.mp z (y,f) k;simp at this)
 cell:=λy c h=>I.cell y c (cu h)
 free:=λy c h=>I.freeC y c (cu h)
 val:=λi y v e a=>by
  unfold L2.U.g9 at a;rw[cw]at a;cases z:link[i]? with
  | none=>rw[z]at a;cases a
  | some o =>
   rw[z]at a;cases o with
   | none=>cases a
   | some j =>
    have a:(σ[j]?).join=some v:=cL a;obtain⟨C,r⟩:=S.link i j y z e;have b:=fq r;obtain⟨m,_,D⟩:=I.loc;have d:=S.free _ b rfl;obtain⟨u,E,J⟩:=D j y v C (by
     cases w:σ[j]? with
     | none=>rw[w]at a;cases a
     | some q=>rw[w]at a;exact dO some a) (by
     rcases d with q | q
     ·exact .inr (.inl q)
     ·exact .inr (.inr q))
    rcases J with⟨q,_⟩ | ⟨_,c,hc,L⟩
    ·rcases d with l | l<;>rw[q]at l<;>cases l
    ·obtain⟨f,g⟩:=k7 scope.names [] b ⟨c,hc⟩;cases t:(k6 X.env scope.names []).lookup y with
     | none=>exact absurd g (by intro k;have:=List.lookup_eq_none_iff.mp t (y,f) k;simp at this)
     | some p =>
      have:=cu t;rw[hc]at this;cases this;exact⟨c,u,r,rfl,L,E⟩
 len:=by unfold L2.U.g9;rw[aD];exact S.len
structure Uq (X:Cx):Prop where
 ex:∃x c T,x∈dF/\W.tabIn X.K x=some (c,T)/\W.codeHdIn X.K c T=true/\X.env.code=.ref c/\X.env.qual++"<lambda>"=A6 x
 blt:Bt X.mg X.base
def oneArg(x:Str)(a:Pos):Arguments:={posonlyargs:=[],args:=[{arg:=x,annotation:=none,pos:=a}],vararg:=none,kwonlyargs:=[],kw_defaults:=[],kwarg:=none,defaults:=[]}
def Jx(a b c u:Value):bindArgs (W.kla_fn "<lambda>" qual (oneArg x ap) body scope cl a b c) ⟨[u],[]⟩=pure [(x,u)]:=by
 have d:seqItems? Value.none=pure none:=rfl;unfold bindArgs;simp only[oneArg,d,D8];simp[List.lookup]
def ox:aE:=⟨.aq,[]⟩
def abC(rs:(PV->Gx PV)->Nat->rF)(fb:Gx PV)(link:List (Option Nat)):PV->Gx PV:=λp a =>
 (rs (R8 fb (bJ link a.ρ)) a.h.length [p,.ref a.h.length] (a.h++[ox])).map λr=>(abm r.1,⟨a.ρ,r.2⟩)
def Jy(rs:(PV->Gx PV)->Nat->rF)(fe fb:Gx PV)(link:List (Option Nat)):Gx PV:=bnd fe (abC rs fb link)
section
variable {K:W.Frag} {aa H H':Hp} {ab F:Fz} {h:List aE}
def lI.afM(C:lI K aa ab F h H)(hp:F.F p=none)(k:aa p=none)(l:∃o,H p=some o)(m:p∉F.μ):lI K aa ab ⟨F.F,F.μ++[p]⟩ (h++[ox]) H/\Gr F ⟨F.F,F.μ++[p]⟩/\(F.μ++[p])[h.length]?=some p:=by
 have g:Gr F ⟨F.F,F.μ++[p]⟩:=⟨cX.refl _,λn a q=>by
  grind⟩
 have b:∀n a,(F.μ++[p])[n]?=some a->F.μ[n]?=some a\/n=F.μ.length/\a=p:=λn a q=>by
  grind
 refine⟨⟨C.sub,C.keep,C.base.trans g,C.fresh,λn a q=>?_,by simp[C.hl],?_,λn d a hd e hk=>?_⟩,g,by rw[C.hl];simp⟩
 ·rcases b n a q with z | ⟨_,rfl⟩
  ·exact C.new n a z
  ·grind
 ·rw[tq];exact⟨C.nd,by grind⟩
 ·rcases b n a e with z | ⟨rfl,rfl⟩
  ·rw[jN (by rw[C.hl];exact(cS.mp z).1)]at hd
   obtain⟨f,ws,i,j⟩:=C.cell n d a hd z hk;exact⟨f,ws,i,j.mono g⟩
  ·rw[<-C.hl,sO (au _),Nat.sub_self]at hd;cases hd;cases hk
end
section
variable {X:Cx} {aa:Hp} {ab:Fz} {e body:Expr} {fe fb:Gx PV} {scope:Scope} {x:Str} {ap lp p1 pos:Pos} {N Ns:List Str} {link:List (Option Nat)} {fs:Addr} {Ur:FuncData} {k:Nat} {st:Stmt} {pr:List Str} {rb:(PV->Gx PV)->Nat->Gx fD}
def MS(D:Ei X.K "spread" "spread" st fs Ur)(mS:X.mg "spread"=some (.ref fs))(bS:gZ X.K Ur pr [])(scS:dP Ns pr (ay st))(hpr:pr.length=2)(L:Uq X)(hg:Gl X "spread")(hr:dW (k+2) X.A)(he:PE X e (tE X aa ab fe))(ny:starEach [e,.Lambda (oneArg x ap) body scope lp] X.env=(false,eval e X.env)::starEach [.Lambda (oneArg x ap) body scope lp] X.env)(S:uI X x N link scope)
  (MT:∀(i:Value) (A:Around) (aB:List Env) (s:Shared) (H:Hp) (E:XK) (aa:Hp) (ab:Fz) (n:Nat) (ω:PV->Gx PV),dW (k+1) (A.deeper (envOfC "spread" (ay st) s.heap.objs.size fs i))->BX (fV (jE X.prog X.w) X.prog X.w X.K X.mg X.base Ns "spread" (ay st) fs i A aB s H E) aa ab n ω ->
   PSs (fV (jE X.prog X.w) X.prog X.w X.K X.mg X.base Ns "spread" (ay st) fs i A aB s H E) (dD st) (tS (fV (jE X.prog X.w) X.prog X.w X.K X.mg X.base Ns "spread" (ay st) fs i A aB s H E) aa ab (rb ω n)))
  (hbody:∀(qual:Str) (fa:Addr) (i:Value) (cl:List (Str×Addr)) (A:Around) (stack:List Env) (s:Shared) (H zH:Hp) (uH:Fz),dW k (A.deeper (W.envX qual scope s.heap.objs.size fa i cl)) ->
   PE (T5 (jE X.prog X.w) X.prog X.w X.K X.mg X.base (x::N) qual scope fa i cl A stack s H E0) body (tE (T5 (jE X.prog X.w) X.prog X.w X.K X.mg X.base (x::N) qual scope fa i cl A stack s H E0) zH uH fb)) :
  PE X (.Call (.Name "spread" p1) [e,.Lambda (oneArg x ap) body scope lp] [] pos) (tE X aa ab (Jy (λω n=>dJ (rb ω n) Ns.length) fe fb link)):=by
 rintro ae s σ H Q I ⟨F,st0,R,h⟩
 obtain⟨⟨xn,c,T,l1,l2,l3,l4,l5⟩,hB⟩:=L;have hcl:=uF λy hy hy2=>I.ok.has y.1 (S.free y hy hy2)
 refine kD (ld_glob I hg mS ?_ rfl);refine W.callWith_K I.ok.mod.kin D.kp (thn ((jX he (jX (Wu l1 l2 l3 l4 l5 hB rfl hcl) ue rfl) ny) pos ae s σ H
  (λvs d=>∃v fa F1 bG p J,vs=[v,.ref fa]/\Rep X.K aa ab F1 bG σ J/\b6 X.K F1 p v/\Tx X aa ab (b6 X.K) F1 bG (abC (λω n=>dJ (rb ω n) Ns.length) fb link p) σ Q/\J fa=none/\cX J d/\(∀b o,d b=some o->J b=some o\/J b=none)/\Mc d fa (A6 xn) (oneArg x ap) body scope (k6 X.env scope.names [])) I
  ⟨F,st0,R,h.bnd λp v F1 bG J B g1 b1 h1 fa d hn sm fr hL=>⟨v,fa,F1,bG,p,J,rfl,B,b1,h1,hn,sm,fr,hL⟩⟩) λus C z9=>?_) ny rfl
 obtain⟨vs,d,I2,r,v,fa,F1,bG,p,J,rfl,B,b1,z,hn,sm,fr,hL⟩:=z9;refine⟨I2.tZ,?_⟩;obtain⟨q,e1,e2⟩:=z;obtain⟨⟨rs,h'⟩,e3,e4⟩:=bE e1;subst e4;obtain⟨o,u,pm,ajI,Kz,c',oc,uc,yZ,t,k1,k2,k3⟩:=id hL;have C1:=B.c.after sm (cX.refl _) rfl (B.sub.trans sm) λ_ _ e=>.inl e
 have nfa:fa∉F1.μ:=λhm=>by
  obtain⟨n,ZS⟩:=px.mp hm;obtain⟨_,o',o8⟩:=B.c.new n fa ZS;rw[hn]at o8;cases o8
 obtain⟨C2,g2,hm⟩:=C1.afM (B.sub.free hn) (B.c.keep.free hn) ⟨_,k1⟩ nfa;obtain⟨C3,full⟩:=C2.enter;have b2:aI X.K ⟨F1.F,F1.μ++[fa]⟩ [p,.ref bG.h.length] [v,.ref fa]:=.cons (b1.mono g2) (.cons (eA.mpr ⟨fa,hm,rfl⟩) .nil);obtain⟨q2,e5,e6⟩:=bt e3;have run:∀Q' M,Xb X.K (rE d (F1.μ++[fa])) ⟨F1.F,F1.μ++[fa]⟩ h' Q' M rs->codeAny (model X.prog X.w) X.A (.call (.ref fs) ⟨us,[]⟩) (CR (jE X.prog X.w) X.stack X.prog X.w d C Q' M) C:=λQ' M res=>by
  refine aaC D scS hr I2.PM (bS C us I2.tZ (by rw[dc,<-r.length,hpr];rfl)) (by rw[dc];exact r) (by rw[hpr];rfl) λi=>⟨_,MT i X.A X.stack C d M _ _ bG.h.length _ (hr.deeper _) ⟨fa,o,u,_,hm,k1,k2,?_⟩,_,⟨gY Ns.length [p,.ref bG.h.length],_⟩,⟨C3,BQ b2⟩,q2,e5,?_⟩
  ·exact Xi rfl hL (R9 I2 S) (B.l.g9 link) g2 (hr.deeper _) Jx S.kind S.co S.gen S.par S.cell λi s H zH uH hr'=>hbody _ _ _ _ _ _ _ _ _ _ hr'
  ·rcases q2 with⟨f | ⟨m,c⟩,st⟩
   ·cases f with
    | rt=>cases e6;exact λv j H' C' g b'=>res v j H' C' b'
    | nx=>cases e6;exact λj bR H' R g=>res .cf j H' R.c (dQ.mpr rfl)
    | _=>cases e6
   ·cases e6;cases m with
    | true=>exact λj bR H' ae C h1 a Y vs R sf I hc hm=>Hj I hm (Hk full R.c) (res Y j H' R.c hc)
    | false=>exact λbR ae J C e Z I h=>BP I h (by rintro Y d ⟨hc,j,R,sf⟩;exact⟨Hk full R.c,res Y j d R.c hc⟩)
 have done:∀Q' M,(∀e Z,jE X.prog X.w X.stack d C M e Z->X.xe e Z)->Xb X.K (rE d (F1.μ++[fa])) ⟨F1.F,F1.μ++[fa]⟩ h' Q' M rs->wpAny (model X.prog X.w) X.A (call (.ref fs) us) (EP X ae σ Q') X.xe C:=λQ' M hx res=>by
  refine tO (kJ (run Q' M res) λr Z yO=>?_)
  cases r with
  | error e=>exact hx e Z yO
  | ok fl =>
   cases fl with
   | ret u=>exact I2.after yO
   | next=>exact False.elim yO
   | brk=>exact False.elim yO
   | cont=>exact False.elim yO
 cases rs with
 | ok p'=>exact done Q E0 (λe Z hx=>Bw ae σ d C e Z I2 hx) λv j H' D' b'=>e2 v H' j ⟨C2.leave D',B.l.mono (g2.trans D'.base)⟩ (g2.trans D'.base) b'
 | ex m c=>exact thn (done (λ_ _=>False) _ (λe Z hx=>e2 σ ae d C e Z I2 hx) λY j H' D' hc=>⟨hc,j,⟨C2.leave D',B.l.mono (g2.trans D'.base)⟩,g2.trans D'.base⟩) (by rintro v s3 ⟨_,_,_,_,z⟩;exact z.elim)
end
end L2.U
namespace PySem
open Sem (wp)
def rH:entryFor table "set.__iter__"=some Builtin.«frozenset.__iter__» := entryFor_alias (id':="frozenset.__iter__") (by kernel_rfl) rfl (by decide +kernel) (by kernel_rfl)
def e9:Slot "set_iterator" "__next__" "set_iterator.__next__" :=
 .of (owner:="set_iterator") (n:="__next__") (by rw[Eg,DX];kernel_rfl) (by decide +kernel) (by decide +kernel) (by decide +kernel)
  (by first | exact .inl (by decide +kernel) | exact .inr (by decide +kernel)) (by rw[isSubtype_type];kernel_rfl)
def mq:entryFor table "set_iterator.__next__"=some Builtin.«set_iterator.__next__» := entryFor_of_tree (by kernel_rfl)
def oy(a:Value):argsOk "set_iterator.__next__" ⟨[a],[]⟩:=by unfold argsOk;kernel_rfl
def oz:Slot "set_iterator" "__iter__" "set_iterator.__iter__" :=
 .of (owner:="set_iterator") (n:="__iter__") (by rw[Eg,DX];kernel_rfl) (by decide +kernel) (by decide +kernel) (by decide +kernel)
  (by first | exact .inl (by decide +kernel) | exact .inr (by decide +kernel)) (by rw[isSubtype_type];kernel_rfl)
def wj:entryFor table "set_iterator.__iter__"=some Builtin.«dict_keyiterator.__iter__» := entryFor_alias (id':="dict_keyiterator.__iter__") (by kernel_rfl) rfl (by decide +kernel) (by kernel_rfl)
def zI(a:Value):argsOk "set_iterator.__iter__" ⟨[a],[]⟩:=by unfold argsOk;kernel_rfl
def eu(a:Array (Int×Value))(b:Nat)(t:SetTable):Obj:={cls:=.type "set",dict:=none,data:=.set a b t,slots:=#[]}
noncomputable abbrev BT(w:World):Bool:=w.params.followText "set-order"
section
variable {prog:Program} {w:World} {A:Around} {E:Value->Shared->Prop} {s:Shared} {a:Addr} {es:Array (Int×Value)} {ep:Nat} {t:SetTable}
def m6(h:Q (BT w) s):wpAny (model prog w) A setsByText Q E s:=by
 unfold setsByText;exact ag (D6 (ao h))
def zJ(hS:s.heap.get? a=some (eu es ep t))(b:t.fits es.size=true)(c:BT w=true\/t.plain=true)(h:Q false s):wpAny (model prog w) A (setDrawn a) Q E s:=by
 unfold setDrawn;refine ag (kE hS rfl b ?_);refine ag (m6 ?_);refine ao ?_;have e:(!BT w&&(!t.plain&&decide (es.size>1)))=false:=by
  grind
 show Q (!BT w&&(!t.plain&&decide (es.size>1))) s;rw[e];exact h
def E8(hS:s.heap.get? a=some (eu es ep t))(b:t.fits es.size=true)(d:BT w=true\/t.plain=true)
  (e:Q (.ref s.heap.objs.size) {s with heap:=s.heap.push {cls:=.type "set_iterator",data:=.fields #[.int 0 0,.int 0 0,.ref a,.int es.size 0,.int ep 0]}}):wpAny (model prog w) A (pyIter (.ref a)) Q E s:=by
 have c:s.TypeIs (.ref a) "set":=⟨_,hS,rfl⟩;refine wpAny_pyIter_slot c F.slot_set_iter (iq F.slot_set_iter c rH ?_ (F.args_set_iter_1 _));unfold Builtin.«frozenset.__iter__» Builtin.Frozenset.slot0;refine ag (ag (ao ?_));refine ao ?_;unfold Builtin.Frozenset.sizeOf setEntries;refine ag (ag (ag (kE hS rfl b (ao (ao ?_)))));refine ag (zJ hS b d ?_);rw[if_neg bX];refine ag (ao ?_);refine ag (wpAny_setEpoch_of hS rfl b ?_);unfold newFields;refine ag (jh (ao ⟨_,rfl,"set_iterator",_,⟨_,cU _ rfl,rfl⟩,e9.lookup,?_⟩));simpa[rawInt]using e
end
section
variable {prog:Program} {w:World} {A:Around} {E:Value->Shared->Prop} {s:Shared} {a:Addr} {es:Array (Int×Value)} {ep:Nat} {t:SetTable}
noncomputable def Hq(t:SetTable):Nat->Nat
 | 0=>0
 | i+1=>t.place.getD i 0+1
def fg(w:World)(t:SetTable)(i:Nat):Nat:=if BT w=true then 0 else Hq t i
def m7(w:World)(a:Addr)(ep:Nat)(es:Array (Int×Value)):Array (Int×Value):=if BT w=true then pickOrder (w.params.setOrder a ep) es else es
structure gn (w:World) (a:Addr) (ep:Nat) (es:Array (Int×Value)) (t:SetTable):Prop where
 fits:t.fits es.size=true
 size:(m7 w a ep es).size=es.size
 led:BT w=false->t.led=true/\t.plain=true/\∀i,i<=es.size->SetTable.below t.place (Hq t i)=i
def gn.ok(g:gn w a ep es t):BT w=true\/t.plain=true:=by
 cases h:BT w with
 | true=>exact .inl rfl
 | false=>exact .inr (g.led h).2.1
def gn.place(g:gn w a ep es t):t.place.size=es.size:=by
 have:=g.fits;simp only[SetTable.fits,aY,bF]at this;exact this.1
def BY(hS:s.heap.get? a=some (eu es ep t))(g:gn w a ep es t)(i:Nat)(d:i<=es.size)
  (h:Q (((m7 w a ep es)[i]?).map λe=>(e.2,fg w t (i+1))) s):wpAny (model prog w) A (setNext a (fg w t i) i ep) Q E s:=by
 unfold setNext;refine ag (kE hS rfl g.fits ?_);refine ag (m6 ?_);cases b:BT w with
 | true =>
  rw[if_pos rfl];dsimp only
  rw[if_neg (by simp)]
  unfold setWalk;refine ag (ag (kE hS rfl g.fits ?_));refine ag (m6 ?_);rw[b,if_pos rfl];refine ag (D6 ?_);refine ao (ao ?_);unfold m7 fg at h;rw[b]at h;simp only[jl]at h;unfold fg;rw[b];exact h
 | false =>
  obtain⟨f,hp,hw⟩:=g.led b;rw[if_neg bX];refine ag (ao ?_);show wpAny _ _ (if(!t.plain&&decide (es.size>1))=true then _ else _) _ _ s
  rw[hp];rw[if_neg (by simp)]
  refine ag ?_;show wpAny _ _ (if(!t.led&&!es.isEmpty)=true then _ else _) _ _ s
  rw[f,if_neg (by simp)]
  refine ao ?_;refine ao ?_;unfold m7 fg at h;rw[b]at h;simp only[tf,jR]at h;have e:SetTable.below t.place (fg w t i)=i:=by unfold fg;rw[b,if_neg bX];exact hw i d
  rw[e];have m:=g.place;by_cases j:i<es.size
  ·have c:es[i]?=some es[i]:=by simp[j]
   have k:t.place[i]?=some (t.place[i]'(by lia)):=by grind
   rw[c,k];rw[c]at h;have l:Hq t (i+1)=t.place[i]'(by lia)+1:=by
    show t.place.getD i 0+1=_;simp[show i<t.place.size by lia]
   rw[l]at h;exact h
  ·grind
end
section
variable {prog:Program} {w:World} {A:Around} {E:Value->Shared->Prop} {s:Shared} {a it:Addr} {es:Array (Int×Value)} {ep:Nat} {t:SetTable}
def fQ(h:Heap)(it a:Addr)(b i n ep:Nat):Prop:=∃o,h.get? it=some o/\o.cls=.type "set_iterator"/\o.data=.fields #[.int b 0,.int i 0,.ref a,.int n 0,.int ep 0]
def fQ.typeIs(x:fQ s.heap it a b i n ep):s.TypeIs (.ref it) "set_iterator":=let ⟨o,ho,hc,_⟩:=x;⟨o,ho,hc⟩
def MU(c:fQ s.heap it a (fg w t i) i es.size ep)(hS:s.heap.get? a=some (eu es ep t))(g:gn w a ep es t)(d:i<es.size)
  (m:∀v h',(∃e,(m7 w a ep es)[i]?=some e/\v=e.2)->fQ h' it a (fg w t (i+1)) (i+1) es.size ep->Heap.SameBut it s.heap h'->Q (some v) {s with heap:=h'}):wpAny (model prog w) A (pyNext (.ref it)) Q E s:=by
 obtain⟨o,ho,hc,hd⟩:=id c;unfold pyNext;refine ag (yC (kB c.typeIs e9 (iq e9 c.typeIs mq ?_ (oy _))));unfold Builtin.«set_iterator.__next__»;refine ag (ao ?_);refine ag (wpAny_fieldsOf ho hd ?_);dsimp only
 unfold setEntries;refine ag (ag (kE hS rfl g.fits (ao ?_)));dsimp only
 rw[if_neg (by simp)]
 have k:(m7 w a ep es)[i]?=some ((m7 w a ep es)[i]'(by rw[g.size];exact d)):=by simp[d]
 refine ag ?_;rw[show((fg w t i:Nat):Int).toNat=fg w t i from fu _,show((i:Nat):Int).toNat=i from fu _,show((ep:Nat):Int).toNat=ep from fu _]
 refine BY hS g i (dN d) ?_;rw[k];dsimp only[Option.map]
 refine ag (tH ho hd (by simp) ?_)
 obtain⟨b,f,p,j⟩:∃b,(s.heap.update it (Obj.mapFields (·.setIfInBounds 0 (rawInt (fg w t (i+1):Nat))))).get? it=some b/\b.cls=.type "set_iterator"/\b.data=.fields #[.int (fg w t (i+1):Nat) 0,.int i 0,.ref a,.int es.size 0,.int ep 0] :=
  ⟨_,sW _ ho (DY (pF hd _)),(D1 ..).trans hc,by rw[pF hd];simp[rawInt]⟩
 have l:Heap.SameBut it s.heap (s.heap.update it (Obj.mapFields (·.setIfInBounds 0 (rawInt (fg w t (i+1):Nat))))):=pE ..
 generalize (s.heap.update it (Obj.mapFields (·.setIfInBounds 0 (rawInt (fg w t (i+1):Nat)))))=H1 at f l ⊢
 refine ag (tH f j (by simp) ?_)
 have q:fQ (H1.update it (Obj.mapFields (·.setIfInBounds 1 (rawInt (i+1))))) it a (fg w t (i+1)) (i+1) es.size ep :=
  ⟨_,sW _ f (DY (pF j _)),(D1 ..).trans p,by rw[pF j];simp[rawInt]⟩
 exact ao ⟨_,rfl,ao (m _ _ ⟨_,k,rfl⟩ q (l.trans (pE ..)))⟩
def Sb(c:A.handled=none)(b:fQ s.heap it a (fg w t es.size) es.size es.size ep)(hS:s.heap.get? a=some (eu es ep t))(g:gn w a ep es t)
  (d:∀h',Heap.ExtBut it s.heap h'->Q none {s with heap:=h'}):wpAny (model prog w) A (pyNext (.ref it)) Q E s:=by
 obtain⟨o,ho,hc,hd⟩:=id b;unfold pyNext;refine ag (yC (kB b.typeIs e9 (iq e9 b.typeIs mq ?_ (oy _))));unfold Builtin.«set_iterator.__next__»;refine ag (ao ?_);refine ag (wpAny_fieldsOf ho hd ?_);dsimp only
 unfold setEntries;refine ag (ag (kE hS rfl g.fits (ao ?_)));dsimp only
 rw[if_neg (by simp)]
 have e:(m7 w a ep es)[es.size]?=none:=by simp[g.size]
 refine ag ?_;rw[show((fg w t es.size:Nat):Int).toNat=fg w t es.size from fu _,show((es.size:Nat):Int).toNat=es.size from fu _,show((ep:Nat):Int).toNat=ep from fu _]
 refine BY hS g es.size (au _) ?_;rw[e];dsimp only[Option.map]
 refine ag (tH ho hd (by simp) ?_)
 refine ag ?_;simp only[newExc,newTuple];refine ag (jh ?_ (by size_fits))
 refine ag (wpAny_of_eq (by first | rfl | (simp only[firstArgMember];rfl)) ?_)
 refine jh ?_ (by size_fits)
 simp only[raiseNew];refine ag (wpAny_handled ?_);rw[show A.in1.handled=none from c]
 refine ag (ao (wpAny_throw ?_));refine ag (Ea ⟨_,cU _ rfl,rfl⟩ isSubtype_stop ?_);exact ao (d _ (((pE ..).extBut.push _).push _))
def MV(b:fQ s.heap it a c i n ep)(h:Q (.ref it) s):wpAny (model prog w) A (pyIter (.ref it)) Q E s:=by
 refine wpAny_pyIter_slot b.typeIs oz (iq oz b.typeIs wj ?_ (zI _));exact ao ⟨_,rfl,"set_iterator",_,b.typeIs,e9.lookup,h⟩
def Walks.afO(p:A.handled=none)(I a:Addr)(k:a≠I)(g:gn w a ep es t) :
  Walks prog w A I [I,a] [I] es.size (λi v=>∃e,(m7 w a ep es)[i]?=some e/\v=e.2) (λi h=>fQ h I a (fg w t i) i es.size ep/\h.get? a=some (eu es ep t)) where
 sub:=λb j=>by grind
 frame:=λ_ _ _ c hk=>⟨let ⟨o,ho,r⟩:=c.1;⟨o,hk I (by simp) o ho,r⟩,hk a (by simp) _ c.2⟩
 item:=λi s Q E q c d=>MU c.1 c.2 g q λv l u x f=>d v l s.toks u ⟨x,f.extBut a _ k c.2⟩ λb o j e=>f.extBut b o (λh=>j (by simp[h])) e
 done:=λs Q E c d=>Sb p c.1 c.2 g λl m=>d l s.toks λb o j e=>m b o (λh=>j (by simp[h])) e
 self:=λ_ _ _ _ c d=>MV c.1 d
def MW(e:s.TypeIs (.ref r) "set")(h:Q false s):wpAny (model prog w) A (Builtin.List.listLengthHint (.ref r)) Q E s:=by
 unfold Builtin.List.listLengthHint;refine ag (wpAny_specialOf e F.slot_set_len.lookup ?_)
 generalize d:("set.__len__":String)=f
 wp_delta
 rw[show splitId f=some ("set","__len__")from by subst d;decide +kernel]
 subst d;refine ag (Ea (b:=true) e (by rw[isSubtype_type];kernel_rfl) ?_)
 refine Ee (λc=>absurd c (by decide)) (λ_=>?_)
 refine Ee (λ_=>?_) (λc=>absurd (by decide +kernel) c)
 refine ag (pP e ?_);exact ao h
def Sd(g:gn w a ep es t):W.KdlSrc prog w "set" a a es.size (λi v=>∃e,(m7 w a ep es)[i]?=some e/\v=e.2) (λh=>h.get? a=some (eu es ep t)) where
 type:=λ_ b=>⟨_,b,rfl⟩
 there:=λ_ b=>⟨br b,br b⟩
 keep:=λ_ _ b hk=>hk a (.inl rfl) _ b
 notList:=by decide
 notTuple:=by decide
 hint:=λ_ _ _ _ b c=>MW ⟨_,b,rfl⟩ c
 iter:=λA s d b=>⟨_,_,(λ_ _ c=>E8 b g.fits g.ok c),Walks.afO d _ a (bL (br b)) g,⟨⟨_,cU _ rfl,rfl,by
  have:fg w t 0=0:=by unfold fg Hq;split<;>rfl
  rw[this];rfl⟩,bA _ b⟩⟩
end
section
open PyProof.Rows
theorem uJ:∀(l:List α) (i:Nat) (h:i<l.length),([l[i]]++l.eraseIdx i).Perm l
 | [],i,h=>absurd h (by simp)
 | x::l,0,_=>.refl _
 | x::l,i+1,h=>by
  have a:i<l.length:=by simpa using h
  have ih:=uJ l i a;rw[List.getElem_cons_succ,List.eraseIdx_cons_succ];exact(List.Perm.swap x l[i] (l.eraseIdx i)).trans (ih.cons x)
theorem Hr(nx:Nat->Nat):∀(a k:Nat) (left:List α) (out:Array α),a=left.length->(pickOrder.go nx a k left out).toList.Perm (out.toList++left)
 | 0,k,left,out,h=>by
  have:=mJ h.symm;subst this;rw[dc];exact .refl _
 | a+1,k,left,out,h=>by
  have b:nx k%left.length<left.length:=Nat.mod_lt _ (by lia)
  unfold pickOrder.go;rw[b7 b];refine(Hr nx a (k+1) (left.eraseIdx (nx k%left.length)) (out.push left[nx k%left.length]) (by grind)).trans ?_
  rw[yr,cC];refine List.Perm.append_left _ ?_;exact uJ left _ b
def Jz(nx:Nat->Nat)(xs:Array α):(pickOrder nx xs).toList.Perm xs.toList:=by
 unfold pickOrder;have:=Hr nx xs.size 0 xs.toList #[] (by simp)
 simpa using this
def BZ(w:World)(a:Addr)(c:Nat)(b:Array (Int×Value)):(m7 w a c b).toList.Perm b.toList:=by
 unfold m7;split
 ·exact Jz _ _
 ·exact .refl _
def MX(w:World)(a:Addr)(c:Nat)(b:Array (Int×Value)):(m7 w a c b).size=b.size:=by
 have:=(BZ w a c b).length_eq;simpa using this
def intOf:Value->Int
 | .int n _=>n
 | _=>0
theorem B0:∀(l:List (Int×Value)),(∀e∈l,∃n t,e.2=.int n t)->IntsAre (l.map (·.2)) (l.map λe=>intOf e.2)
 | [],_=>.nil
 | e::l,h=>by
  obtain⟨n,t,q⟩:=h e aO;have ih:=B0 l λx a=>h x (aM _ a)
  rw[aH,aH,q];exact .cons n t ih
def jJ(place:Array Nat)(led:Bool):SetTable:={mask:=7,place:=place,dummies:=#[],finger:=0,led:=led,moves:=0,plain:=true}
def E9:∀k:_root_.Fin 64,hashInt ((k:Nat):Int)=((k:Nat):Int):=by decide +kernel
def Xk:∀(k:_root_.Fin 64) (led:Bool),(jJ #[] led).freeSlot ((k:Nat):Int)=some ((k:Nat)%8,false):=by decide +kernel
def Xl:∀(p:_root_.Fin 8) (k:_root_.Fin 64) (led:Bool),∃q:_root_.Fin 8,(jJ #[(p:Nat)] led).freeSlot ((k:Nat):Int)=some ((q:Nat),false)/\q≠p:=by decide +kernel
def Se:∀p:_root_.Fin 8,SetTable.below #[(p:Nat)] 0=0/\SetTable.below #[(p:Nat)] ((p:Nat)+1)=1:=by decide +kernel
def Sf:∀p q:_root_.Fin 8,p<q->SetTable.below #[(p:Nat),(q:Nat)] 0=0/\SetTable.below #[(p:Nat),(q:Nat)] ((p:Nat)+1)=1/\SetTable.below #[(p:Nat),(q:Nat)] ((q:Nat)+1)=2:=by decide +kernel
def Sg:∀p q:_root_.Fin 8,q≠p->SetTable.below #[(p:Nat)] (q:Nat)=if p<q then 1 else 0:=by decide +kernel
def abE(k:_root_.Fin 64)(a:Bool)(h:Int)(x:Value)(b:h=((k:Nat):Int)):layNew (jJ #[] a) #[] h x=(#[(h,x)],jJ #[(k:Nat)%8] a,false,false):=by
 subst b;unfold layNew;rw[Xk k a];rfl
def abF(p:_root_.Fin 8)(k:_root_.Fin 64)(a:Bool)(h:Int)(x:Value)(d:h=((k:Nat):Int))(e:Int×Value) :
  ∃q:_root_.Fin 8,q≠p/\layNew (jJ #[(p:Nat)] a) #[e] h x=if p<q then(#[e,(h,x)],jJ #[(p:Nat),(q:Nat)] a,false,false)else(#[(h,x),e],jJ #[(q:Nat),(p:Nat)] a,false,false):=by
 subst d;obtain⟨q,f,b⟩:=Xl p k a;refine⟨q,b,?_⟩;have g:=Sg p q b;unfold layNew;rw[f];dsimp only
 unfold SetTable.put;have i:SetTable.below (jJ #[p] a).place q=if p<q then 1 else 0:=g
 rw[i];by_cases c:p<q
 ·rw[if_pos c,if_pos c];rfl
 ·rw[if_neg c,if_neg c];rfl
end
section
open PyProof.Rows
section
variable {prog:Program} {w:World} {A:Around} {E:Value->Shared->Prop} {s:Shared} {a:Addr} {es wm:Array (Int×Value)} {ep:Nat} {t t1:SetTable}
def B2(h:∀e∈es.toList,∃k tk,e.2=.int k tk/\e.1=hashInt k):ElemsOf (intKind prog w) es.toList:=λe he=>by
 obtain⟨k,tk,b,c⟩:=h e he;exact⟨⟨k,by rw[b];exact intKind_is _ _ _ _,c⟩,by rw[b];rfl⟩
def Si(hS:s.heap.get? a=some (eu es ep t))(wm:Array (Int×Value))(t1:SetTable):(s.heap.update a (Obj.putSet wm t1)).get? a=some (eu wm (ep+1) t1):=by
 have:=sW (Obj.putSet wm t1) hS (by rw[putSet_of wm t1 (rfl)];rfl)
 rw[putSet_of wm t1 (rfl)]at this;exact this
def Fb(hS:s.heap.get? a=some (eu es ep t))(b:t.fits es.size=true)(d:∀e∈es.toList,∃k tk,e.2=.int k tk/\e.1=hashInt k)(l:es.size+1<scanBound)
  (f:es.toList.findIdx? (λe=>(intKind prog w).is k e.2)=none) (g:layNew t es (hashInt k) (.int k tk)=(wm,t1,false,false)) (hp:t1.plain=true) (i:t1.tooFull=false) (j:wm.size<=sizeLine)
  (h:Q true {s with heap:=s.heap.update a (Obj.putSet wm t1)}):wpAny (model prog w) A (setAddHashed a (.int k tk) (hashInt k)) Q E s:=by
 have c:=B2 (prog:=prog) (w:=w) d;unfold setAddHashed setAddHashedIn;refine fy (ag (kE hS rfl b ?_));dsimp only
 rw[byScan_of rfl (dN ‹_›) c];simp only[↓reduceIte];unfold setAddByScan;refine ag ?_;refine ag (gD ?_);refine ag (wpAny_setScan_of (intKind_is _ _ _ _) hS rfl b c ?_);rw[f];dsimp only
 rw[g];dsimp only
 refine ag ?_;refine ao ?_;rw[hp,if_pos rfl];refine ag ?_;rw[hashByValue_scannable 8 rfl];refine ao ?_;have e:(if plainKind (Value.int k tk)=true then t1 else {t1 with plain:=false})=t1:=if_pos rfl
 rw[e];refine ag (wpAny_storeSet_of hS rfl ?_ j);rw[i,if_neg (by simp)]
 exact ao (ao h)
def Fc(hS:s.heap.get? a=some (eu es ep t))(b:t.fits es.size=true)(d:∀e∈es.toList,∃k tk,e.2=.int k tk/\e.1=hashInt k)(g:es.size+1<scanBound)
  (f:es.toList.findIdx? (λe=>(intKind prog w).is k e.2)=some j) (h:Q false s):wpAny (model prog w) A (setAddHashed a (.int k tk) (hashInt k)) Q E s:=by
 have c:=B2 (prog:=prog) (w:=w) d;unfold setAddHashed setAddHashedIn;refine fy (ag (kE hS rfl b ?_));dsimp only
 rw[byScan_of rfl (dN ‹_›) c];simp only[↓reduceIte];unfold setAddByScan;refine ag ?_;refine ag (gD ?_);refine ag (wpAny_setScan_of (intKind_is _ _ _ _) hS rfl b c ?_);rw[f];dsimp only
 exact ao (ao h)
end
def fL(a:Bool)(xs:List Int)(b:Array (Int×Value))(t:SetTable):Prop :=
 (∀e∈b.toList,∃k c,e.2=.int k c/\e.1=hashInt k)/\(b.toList.map λe=>intOf e.2).Perm xs /\
 ((xs=[]/\b=#[]/\t=jJ #[] a)\/(∃(p:_root_.Fin 8) (x:Int),xs=[x]/\t=jJ #[(p:Nat)] a)\/∃(p q:_root_.Fin 8) (x y:Int),xs=[x,y]/\p<q/\t=jJ #[(p:Nat),(q:Nat)] a)
def fL.fits(h:fL led xs b t):t.fits b.size=true/\b.size=xs.length/\b.size<=2:=by
 obtain⟨_,hp,hc⟩:=h;have a:=hp.length_eq;simp at a;rcases hc with⟨rfl,rfl,rfl⟩ | ⟨p,x,rfl,rfl⟩ | ⟨p,q,x,y,rfl,_,rfl⟩
 ·exact⟨rfl,a,by decide⟩
 ·simp at a;exact⟨by rw[a];rfl,a,by lia⟩
 ·simp at a;exact⟨by rw[a];rfl,a,(gS ‹_›)⟩
def fL.good(h:fL (!BT w) xs b t):gn w a f b t:=by
 obtain⟨g,d,m⟩:=h.fits;refine⟨g,MX w a f b,λj=>?_⟩
 obtain⟨_,hp,hc⟩:=h;rw[j]at hc;rcases hc with⟨rfl,rfl,rfl⟩ | ⟨p,x,rfl,rfl⟩ | ⟨p,q,x,y,rfl,k,rfl⟩
 ·refine⟨rfl,rfl,λi e=>?_⟩
  have:i=0:=by grind
  subst this;rfl
 ·obtain⟨c,b2⟩:=Se p;refine⟨rfl,rfl,λi e=>?_⟩
  have:b.size=1:=d;have:i=0\/i=1:=by lia
  rcases this with rfl | rfl
  ·exact c
  ·exact b2
 ·obtain⟨c,b2,l⟩:=Sf p q k;refine⟨rfl,rfl,λi e=>?_⟩
  have:=d;have:i=0\/i=1\/i=2:=by lia
  rcases this with rfl | rfl | rfl
  ·exact c
  ·exact b2
  ·exact l
section
variable {prog:Program} {w:World} {A:Around} {E:Value->Shared->Prop} {s:Shared} {a:Addr} {es:Array (Int×Value)} {ep:Nat} {t:SetTable}
noncomputable def mv(xs:List Int)(k:Int):List Int:=if k∈xs then xs else xs++[k]
def Fd(hS:s.heap.get? a=some (eu es ep t))(o:fL led xs es t)(hk:0<=k/\k<64)(L:xs.length<=1)
  (h:∀b h' d r c,Heap.SameBut a s.heap h'->h'.get? a=some (eu d r c)->fL led (mv xs k) d c->Q b {s with heap:=h'}):wpAny (model prog w) A (setAddHashed a (.int k tk) (hashInt k)) Q E s:=by
 obtain⟨C,M,f3⟩:=o.fits;obtain⟨m,hp,hc⟩:=id o;have D:es.size+1<scanBound:=by
  have:scanBound=4096:=rfl
  lia
 have Fe:∀e∈es.toList,(intKind prog w).is k e.2=true↔intOf e.2=k:=λe he=>by
  obtain⟨n,N,q,_⟩:=m e he;rw[q];show Value.isInt k (.int n N)=true↔n=k;simp[Value.isInt]
 cases hr:es.toList.findIdx? (λe=>(intKind prog w).is k e.2)with
 | some j =>
  obtain⟨hj,R,_⟩:=KR.mp hr;have H:k∈xs:=by
   grind
  refine Fc hS C m D hr ?_;have:=h false s.heap es ep t (Heap.SameBut.refl a s.heap) hS (by unfold mv;rw[if_pos H];exact o)
  exact this
 | none =>
  have T:k∉xs:=λH=>by
   grind
  have Zl:hashInt k=k:=by
   have:=E9 ⟨k.toNat,by lia⟩
   rw[show(⟨k.toNat,by lia⟩:_root_.Fin 64)=k from mM hk.1]at this
   exact this
  have i:hashInt k=(⟨k.toNat,by lia⟩:_root_.Fin 64):=by
   grind
  have fin:∀d c,layNew t es (hashInt k) (.int k tk)=(d,c,false,false)->c.plain=true->c.tooFull=false->d.size<=2->fL led (mv xs k) d c->wpAny (model prog w) A (setAddHashed a (.int k tk) (hashInt k)) Q E s:=λd c g X Y Z q4 =>
   Fb hS C m D hr g X Y (bC Z (by decide)) (h true _ d (ep+1) c (pE ..) (Si hS d c) q4)
  have u:mv xs k=xs++[k]:=by unfold mv;rw[if_neg T]
  rcases hc with⟨rfl,rfl,rfl⟩ | ⟨p,x,rfl,rfl⟩ | ⟨p,q,x,y,rfl,l,rfl⟩
  ·refine fin _ _ (abE ⟨k.toNat,by lia⟩ led _ _ i) rfl rfl (by simp) ?_
   rw[u];refine⟨λe he=>?_,.refl _,.inr (.inl ⟨⟨(⟨k.toNat,by lia⟩:_root_.Fin 64).val%8,Nat.mod_lt _ (by decide)⟩,k,rfl,rfl⟩)⟩
   have he:=he;have he:=aG.mp he;subst he;exact⟨k,tk,rfl,rfl⟩
  ·have v:=M;obtain⟨f,rfl⟩:∃f,es=#[f]:=Array.size_eq_one_iff.mp v
   obtain⟨q,B,g⟩:=abF p ⟨k.toNat,by lia⟩ led (hashInt k) (.int k tk) i f
   have I:(intOf f.2)=x:=by
    have hm:=hp.mem_iff.mp (az.mpr ⟨f,by simp,rfl⟩)
    simpa using hm
   have J:=m f (by simp)
   by_cases l:p<q
   ·rw[if_pos l]at g;refine fin _ _ g rfl rfl (by simp) ?_
    rw[u];refine⟨λe he=>?_,?_,.inr (.inr ⟨p,q,x,k,rfl,l,rfl⟩)⟩
    ·have he:=he;simp only[aW,fw,fA]at he;rcases he with rfl | rfl
     ·exact J
     ·exact⟨k,tk,rfl,rfl⟩
    ·show [intOf f.2,k].Perm ([x]++[k]);rw[I];exact .refl _
   ·rw[if_neg l]at g;refine fin _ _ g rfl rfl (by simp) ?_
    rw[u];refine⟨λe he=>?_,?_,.inr (.inr ⟨q,p,x,k,rfl,?_,rfl⟩)⟩
    ·have he:=he;simp only[aW,fw,fA]at he;rcases he with rfl | rfl
     ·exact⟨k,tk,rfl,rfl⟩
     ·exact J
    ·show [k,intOf f.2].Perm ([x]++[k]);rw[I];exact .swap x k []
    ·have h3:q≠(p:Nat):=λe=>B (_root_.Fin.ext e)
     have h4:¬(p:Nat)<(q:Nat):=l;show(q:Nat)<(p:Nat)
     lia
  ·simp at L
end
end
end PySem
namespace PySem
open PyProof.Rows
def qc(val:Nat->Int):Nat->List Int
 | 0=>[]
 | i+1=>mv (qc val i) (val i)
theorem uK(val:Nat->Int):∀i,(qc val i).length<=i
 | 0=>au _
 | i+1=>by
  have:=uK val i;unfold qc mv;split
  ·lia
  ·simp;lia
section
variable {prog:Program} {w:World} {A:Around} {R:Result->Shared->Prop} {I:Addr} {fp wr:List Addr} {G:Array GenState->Array GenState->Prop} {n:Nat} {P:Nat->Value->Prop} {St:Nat->Shared->Prop}
def B3(W:WalksS prog w A.in1 I fp wr G n P St)(S:Addr)(f:S∉fp)(val:Nat->Int)(H:∀i v,P i v->∃t,v=.int (val i) t)(q:∀i,i<n->0<=val i/\val i<64)(hn:n<=2)(g:Bool) :
  ∀(k i:Nat) (s:Shared),n-i=k->i<=n->St i s->(∃a d t,s.heap.get? S=some (eu a d t)/\fL g (qc val i) a t) ->
   (∀c,Moved (S::wr) G s c->(∃a d t,c.heap.get? S=some (eu a d t)/\fL g (qc val n) a t)->R (.ok (.ret .none)) c) ->
   codeAny (model prog w) A (.builtin "set.update.loop" ⟨[.ref S,.ref I],[]⟩) R s:=by
 have j:S∉wr:=λh=>f (W.sub _ h)
 have D:∀b∈wr,b∈S::wr:=by grind
 intro k;induction k with
 | zero =>
  intro i s hk J r hS u;have L:i=n:=by lia
  subst L;refine pH F.entry_set_update_loop ?_;rw[sY DQ _];refine ag (W.done s _ _ r λc l=>?_)
  exact ao (u c (l.mono D) (by
   obtain⟨a,d,t,ho,m⟩:=hS;exact⟨a,d,t,l.heap S _ j ho,m⟩))
 | succ k ih =>
  intro i s hk J r hS u;have x:i<n:=by lia
  refine pH F.entry_set_update_loop ?_;rw[sY DQ _];refine ag (W.item i s _ _ x r λv c M N l=>?_)
  obtain⟨t,rfl⟩:=H i v M;obtain⟨a,d,tb,ho,Q⟩:=hS;have T:=l.heap S _ j ho;refine ag (fy ?_);unfold setAdd;refine fy ?_;refine ag ((intKind prog w).pyHash (intKind_is _ _ _ _) ?_);have X:=uK val i;refine Fd T Q (q i x) (by lia) λb h' Y y Z p B C=>?_
  refine ao ⟨yD DQ _,ih (i+1) _ (by lia) x (W.frame _ c _ _ N (tN _) λb E o e=>?_) ⟨Y,y,Z,B,C⟩ λLQ Xp Xq=>?_⟩
  ·rw[p.2 b (λh:b=S=>f (by grind))];exact e
  ·refine u LQ (Moved.trans W.gtrans ((l.mono D).then_heap (tN _) λb o E e=>?_) Xp) Xq
   rw[p.2 b (λh:b=S=>E (by grind))];exact e
end
section
variable {prog:Program} {w:World} {A:Around} {E:Value->Shared->Prop} {s:Shared}
def wq(a:Value)
  (h:Q₁ (.ref s.heap.objs.size) {s with heap:=s.heap.push {cls:=.type "set",dict:=none,data:=.set #[] 0 (.fresh 0 0 (!BT w))}}) :
  codeAny (model prog w) A (.call (.builtin "set.__new__") ⟨[.type "set",a],[]⟩) (wants Q₁ E) s:=by
 refine codeAny_of_tree ?_;refine ag (wpAny_of_eq (F.newCall_set_1 a) (ao ⟨yD F.plain_set_new _,pH F.entry_set_new ?_⟩));rw[sY F.plain_set_new _];unfold Builtin.«set.__new__» Builtin.Frozenset.newClass;have b:=sub_set_self;obtain⟨hp,g,d,c,e⟩:=s;dsimp only
 wp_walk
 refine D6 (ao ?_);dsimp only
 simp only[newObj];refine ag (wpAny_alloc (ao ?_));exact ao h
end
def fL.nil(a:Bool):fL a [] #[] (jJ #[] a):=by
 refine⟨λe he=>?_,List.Perm.refl _,.inl ⟨rfl,rfl,rfl⟩⟩
 cases he
section
variable {prog:Program} {w:World} {A:Around} {E:Value->Shared->Prop} {s:Shared}
set_option maxHeartbeats 3200000 in
theorem B4(T:A.handled=none)(X:s.heap.IsList l items)(Y:IntsAre items.toList ns)(u:items.size<=2)(x:∀i,i<items.size->0<=ns.getD i 0/\ns.getD i 0<64)
  (h:∀(h':Heap) (tk:Nat) f j t,h'.get? s.heap.objs.size=some (eu f j t)->fL (!BT w) (qc (λi=>ns.getD i 0) items.size) f t->(∀b o,b<s.heap.objs.size->s.heap.get? b=some o->h'.get? b=some o)->Q (.ref s.heap.objs.size) {s with heap:=h',toks:=tk}) :
  wpAny (model prog w) A (call (.type "set") [.ref l]) Q E s:=by
 obtain⟨c,tl,Z⟩:=F.called_set.mro;have ahu:=F.called_set.made;have BL:=F.called_set.sub;refine tO (codeAny_of_tree ?_);refine ao ⟨Code.quiet_builtin _ (by decide +kernel),pH F.entry_type_call ?_⟩
 rw[Around.under_plain (weight_type_call_type "set" [.ref l] []) rfl];have h1:=F.called_set.notType;have h2:=F.called_set.canCreate;have hct:=F.typeCall_set_1 (.ref l)
 repeat (any_goals (first | assumption | wp_step))
 refine kJ (wq (.ref l) (E:=E) (Q₁:=λobj d=>obj=.ref s.heap.objs.size/\d={s with heap:=s.heap.push {cls:=.type "set",dict:=none,data:=.set #[] 0 (.fresh 0 0 (!BT w))}}) ⟨rfl,rfl⟩) λr d hr=>?_
 cases r with
 | error e=>exact hr
 | ok fl =>
  cases fl with
  | ret obj =>
   obtain⟨rfl,rfl⟩:=hr;obtain⟨a,y⟩:∃a,a = !BT w:=⟨_,rfl⟩
   rw[<-y];have hS:(s.heap.push {cls:=.type "set",dict:=none,data:=.set #[] 0 (.fresh 0 0 a)}).get? s.heap.objs.size=some {cls:=.type "set",dict:=none,data:=.set #[] 0 (.fresh 0 0 a)}:=cU _ rfl
   have hT:Shared.TypeIs {s with heap:=s.heap.push {cls:=.type "set",dict:=none,data:=.set #[] 0 (.fresh 0 0 a)}} (.ref s.heap.objs.size) "set":=⟨_,hS,rfl⟩
   have hli:=F.called_set.init.lookup;have hbi:=F.called_set.init.bind (.ref s.heap.objs.size)
   repeat (any_goals (first | assumption | wp_step))
   refine kJ (codeAny_call_builtin (R:=wants (λr J=>r=.none/\∃h' tk,J={s with heap:=h',toks:=tk} /\
     (∃f j t,h'.get? s.heap.objs.size=some (eu f j t)/\fL a (qc (λi=>ns.getD i 0) items.size) f t) /\
     (∀b o,b<s.heap.objs.size->s.heap.get? b=some o->h'.get? b=some o)) E) F.called_set.init.plain F.entry_set_init (check_set_init_1 hT ?_)) λB J C=>?_
   ·obtain⟨ol,L,k,M,N⟩:=X;obtain⟨afT,Uu,abI,MZ⟩:=ol;simp only at k N;subst k;subst N;have D:(s.heap.push {cls:=.type "set",dict:=none,data:=.set #[] 0 (.fresh 0 0 a)}).get? l=some {cls:=.type "list",dict:=Uu,data:=.seq items M,slots:=MZ}:=bA _ L
    have ajO:=F.sub_list_set;have ajP:=F.sub_list_frozenset;have hne:(Value.type "list"==Value.type "dict")=false:=by decide
    have m:(s.heap.push {cls:=.type "set",dict:=none,data:=.set #[] 0 (.fresh 0 0 a)}).IsList l items:=⟨_,D,rfl,M,rfl⟩
    unfold Builtin.«set.__init__» noKeywords Builtin.Frozenset.updateFrom
    generalize H:pyIter=PI
    wp_walk
    subst H;refine D4 m ?_;refine ag (wpAny_runValue ?_);have p:l<s.heap.objs.size:=br L;have Ff:∀(i:Nat) (v:Value),items[i]?=some v->∃t,v=.int ((λi=>ns.getD i 0) i) t:=λi v hv =>
     PyProof.Rows.IntsAre.int_at Y i v (by grind)
    refine B3 ((Walks.list (by simp[T]) _ l (by rw[pK];exact bL (yq p)) items).toS) s.heap.objs.size (by
     rw[pK];simp only[aW,aG,fw,fA,not_or];exact⟨bL (tw _),tM p⟩) (λi=>ns.getD i 0) Ff x u a (items.size-0) 0 _ (by lia) (dE _)
     ⟨⟨_,cU _ rfl,rfl,rfl⟩,(m.push _)⟩ ?hS0 ?hR
    case hS0 =>
     exact⟨#[],0,jJ #[] a,bA _ hS,fL.nil a⟩
    case hR =>
     intro s' q g;obtain⟨h',g',d',OY,V8⟩:=s';have eg:g'=s.gens:=q.gens;have ed:d'=s.drawn:=q.drawn;have eo:V8=s.os:=q.os;subst eg;subst ed;subst eo;show wpAny _ _ _ _ _ _;refine ao ?_;show wpAny _ _ (ret Value.none) _ _ _;refine ao ⟨rfl,h',OY,rfl,g,λb o u e=>?_⟩
     have hb1:b≠s.heap.objs.size:=by grind
     have hb2:b≠(s.heap.push {cls:=.type "set",dict:=none,data:=.set #[] 0 (.fresh 0 0 a)}).objs.size:=by
      rw[pK];exact bL (yq u)
     exact q.heap b o (by grind) (bA _ (bA _ e))
   ·cases B with
    | error e=>exact C
    | ok I =>
     cases I with
     | ret r =>
      obtain⟨rfl,h',tk,rfl,⟨f,j,t,g,h2'⟩,Zl⟩:=C
      repeat (any_goals (first | assumption | wp_step))
      exact h _ _ f j t g (by grind) Zl
     | _=>exact C.elim
  | _=>exact hr.elim
end
section
variable {prog:Program} {w:World} {A:Around} {E:Value->Shared->Prop} {s:Shared} {a:Addr} {es:Array (Int×Value)} {ep:Nat} {t:SetTable}
def wt(y:A.handled=none)(hS:s.heap.get? a=some (eu es ep t))(d:fL (!BT w) xs es t)
  (h:∀(h1 h':Heap) (tk:Nat) (D:Addr) (out:Array Value) (f:List Int) (e:Nat),(∀b o,s.heap.get? b=some o->h1.get? b=some o)->(∀b o,h1.get? b=some o->h'.get? b=some o)->h1.objs.size<=D->h'.get? D=some (seqObj "list" out e)->IntsAre out.toList f->f.Perm xs->f.Pairwise (· <= ·)->Q (.ref D) {s with heap:=h',toks:=tk}) :
  wpAny (model prog w) A (call (.builtin "sorted") [.ref a]) Q E s:=by
 have g:gn w a ep es t:=d.good;obtain⟨N,R,u⟩:=d.fits;refine DN kind_sorted plain_sorted entry_sorted (args_sorted1 _) ?_;unfold Builtin.«sorted»;refine ag (ao ?_);refine ag (W.kdu_collect (Sd g) (by simp[y]) hS (bC u (by decide)) λh' tk c hk l=>?_)
 have m:c.toList=(m7 w a ep es).toList.map (·.2):=by
  refine List.ext_getElem? λj=>?_
  rw[cw,mL,mL];by_cases B:j<es.size
  ·have h1:j<c.size:=by rw[l.1];exact B
   obtain⟨e,he,C⟩:=l.2 j c[j] (by simp[h1])
   rw[he];simp[h1,C]
  ·have h1:c[j]?=none:=by
    have:=l.1;simp;lia
   have d:(m7 w a ep es)[j]?=none:=by
    have:=g.size;simp;lia
   rw[h1,d];rfl
 have i:=BZ w a ep es;have p:=(i.map _).trans d.2.1;have H:c.toList.length<=2:=by
  rw[da,l.1];exact u
 refine ag (wpAny_newList ?_ (bC H (by decide)))
 have r:(h'.push (seqObj "list" c.toList.toArray 0)).get? h'.objs.size=some (seqObj "list" c.toList.toArray 0):=cU _ rfl;show wpAny _ _ _ _ _ {s with heap:=h'.push (seqObj "list" c.toList.toArray 0),toks:=tk}
 refine ag (fy (iq slot_list_sort ⟨_,r,rfl⟩ entry_list_sort (list_sort_tree r (by
  rw[m];exact B0 _ λe he=>by
   obtain⟨k,tk,q,_⟩:=d.1 e (i.mem_iff.mp he);exact⟨k,tk,q⟩) (by lia) λout f I J L=>⟨_,rfl,?_⟩) (args_list_sort _)))
 obtain⟨e,M⟩:=sortedHeap_at r;refine ao ⟨_,rfl,h h' _ tk h'.objs.size out f e hk (λb o v=>?_) (au _) M I (J.trans p) L⟩
 have x:=br v;rw[sortedHeap_old (bL x) (by rw[size_push'];exact yq x)]
 exact bA _ v
end
end PySem
namespace L2.U
open PySem PySem.Spec PyProof.Rows
noncomputable def insI(x:Int):List Int->List Int
 | []=>[x]
 | y::r=>if x<=y then x::y::r else y::insI x r
def iX:List Int->List Int
 | []=>[]
 | x::r=>insI x (iX r)
theorem qd(x:Int):∀l:List Int,(insI x l).Perm (x::l)
 | []=>.refl _
 | y::r=>by
  unfold insI;split
  ·exact .refl _
  ·exact((qd x r).cons y).trans (.swap x y r)
theorem fM:∀l:List Int,(iX l).Perm l
 | []=>.refl _
 | x::r=>(qd x (iX r)).trans ((fM r).cons x)
theorem Hs(x:Int):∀l:List Int,l.Pairwise (· <= ·)->(insI x l).Pairwise (· <= ·)
 | [],_=>List.pairwise_singleton _ _
 | y::r,h=>by
  obtain⟨c,d⟩:=ym.mp h;unfold insI;split
  ·rename_i b;refine ym.mpr ⟨λz a=>?_,h⟩
   rcases aW.mp a with rfl | a
   ·exact b
   ·exact dt b (c z a)
  ·rename_i b;refine ym.mpr ⟨λz a=>?_,Hs x r d⟩
   rcases aW.mp ((qd x r).mem_iff.mp a)with rfl | a
   ·lia
   ·exact c z a
theorem uL:∀l:List Int,(iX l).Pairwise (· <= ·)
 | []=>.nil
 | x::r=>Hs x _ (uL r)
def Ht:GC:=λh ps=>match ps with
 | [p]=>(BA h p).bind λb=>(mn b).bind λa=>if(a.length<64\/a.length<128/\a.Nodup)then some (.lst ((iX a).map .int))else none
 | _=>none
def uM:∀{b:List Value} {c:List Int},IntsAre b c->Vals (c.map V.int) b:=by
 intro b c h;induction h with
 | nil=>exact .nil
 | cons a t _ ih=>exact .cons ⟨t,rfl⟩ ih
theorem lM{K:W.Frag}:∀a:List Int,aI K F (a.map .int) (a.map V.int)
 | []=>.nil
 | n::r=>.cons (aN.mpr rfl) (lM r)
section
variable {X:Cx} {aa:Hp} {ab:Fz} {e o:Expr} {fe fo:Gx PV} {pos p Fg zp ap cp:Pos}
def Fh:I0 X (.builtin "sorted") Ht:=by
 rintro E s σ H xs us Q I rs ⟨aa,ab,F,st,J,ps,p,e,R,bs,k⟩
 unfold Ht at e;split at e
 ·obtain⟨L,e1,e⟩:=bt e;obtain⟨c,g,e⟩:=bt e;obtain⟨i,rfl⟩:=aU e;obtain⟨v,rfl,b⟩:=eE bs;obtain⟨a,M,rfl,j,l⟩:=R.at (ik e1) b;obtain⟨f,r,pl,_⟩:=I.list (lF.sq j);have m:=oj g l;subst m;have q:=mW r;have N:f.length=c.length:=by rw[<-r.length,aD]
  obtain⟨u,rfl,t⟩:=ki rs;cases t;refine OU.EM pl.isList q (by grind) λd T w hp x=>?_
  have e1:=W.ksm_same (hp.trans (fM c).symm) x (uL c);subst e1;obtain⟨y,B⟩:=sortedAll_at s.heap f d;have C:=I.hok.fresh (tN _);obtain⟨R2,D⟩:=R.laid (.lst ((iX c).map V.int)) C;refine⟨.ref (s.heap.objs.size+1),dj H (s.heap.objs.size+1) (.lst ((iX c).map V.int)),I.laid (λb u e=>sortedAll_old e) (tN _) ⟨?_,d.toList,y,uM w,B⟩,rfl,k _ _ _ R2 D (gL.mpr ⟨_,_,rfl,lF.of aK,lM _⟩)⟩
  rw[aD,(fM c).length_eq];exact bC (show c.length<=128 by lia) (by decide)
 ·cases e
def Hu(h:starEach [e] X.env=(false,eval e X.env)::starEach [] X.env)(a:wpAny M A (eval e X.env) (λv s1=>Q [v] s1) E s):wpAny M A (spliced (backTo pos (starEach [e] X.env))) Q E s:=by
 rw[h];exact Calls.spliced_cons (thn a λv s1 q=>Calls.spliced_nil q)
def qG:bootBuiltins "sorted"=some (.builtin "sorted"):=by kernel_rfl
def M3:bootBuiltins "set"=some (.type "set"):=by kernel_rfl
def ssO(h:List aE)(p:PV):Option PV:=(BA h p).bind λb=>(mn b).bind λa=>if(a.length<=2/\a.all (λn=>decide (0<=n/\n<64))=true)then some (.lst ((iX (qc (λi=>a.getD i 0) a.length)).map .int))else none
def M6(fe:Gx PV):Gx PV:=bnd fe λp=>hp λh=>ssO h p
def Xr(C:X.A.handled=none)(m:Gl X "sorted")(w:X.mg "sorted"=none)(Y:Gl X "set")(Z:X.mg "set"=none)(he:PE X e (tE X aa ab fe))(E:starEach [e] X.env=[(false,eval e X.env)]) :
  PE X (.Call (.Name "sorted" p) [.Call (.Name "set" zp) [e] [] Fg] [] pos) (tE X aa ab (M6 fe)):=by
 rintro J s σ H Q I ⟨F,st,Rp,h⟩
 have hA:=he J s σ H (λv d=>∃F1 f q,Rep X.K aa ab F1 f σ d/\b6 X.K F1 q v/\Tx X aa ab (b6 X.K) F1 f (hp λh=>ssO h q) σ Q) I ⟨F,st,Rp,h.bnd λq v F1 f d j g1 x l=>⟨F1,f,q,j,x,l⟩⟩
 refine kD (ld_blt I m w qG ?_ (by decide) (by decide))
 refine KU (Hu rfl ?_) rfl rfl;refine Call_ (ld_blt I Y Z M3 (mK (Hu E (thn hA λu s1 z9=>?_)) E rfl))
 obtain⟨v,d,L,r1,F1,f,q,j,x,l⟩:=z9;obtain⟨o,g,k⟩:=l.hp;obtain⟨qs,e1,g⟩:=bt g;obtain⟨c,f2,g⟩:=bt g;obtain⟨⟨Mj,hal⟩,rfl⟩:=aU g;obtain⟨a,vs,rfl,ha,j4⟩:=j.at (ik e1) x;cases r1;obtain⟨M,r,pl,_⟩:=L.list (lF.sq ha);have ev:=oj f2 j4;subst ev;have hi:=mW r;have eZ:M.length=c.length:=by rw[<-r.length,aD]
 have y:M.toArray.size=c.length:=by grind
 refine B4 C pl.isList hi (by lia) (λi hi'=>?_) λh' tk ZO ep t hS N hk=>?_
 ·simp_all
 ·rw[y]at N;have I2:Inv X J σ d {s1 with heap:=h',toks:=tk}:=L.kept λb o e=>hk b o (br e) e
  refine wt C hS N λl h'' OY D B uj e k1 k2 R zK hI hp hu=>?_
  have T:=I2.kept (t':=OY) k1;have e1:=W.ksm_same (hp.trans (fM _).symm) hu (uL _);subst e1;have hz:=T.hok.fresh R;obtain⟨R2,s2⟩:=j.laid (.lst ((iX (qc (λi=>c.getD i 0) c.length)).map V.int)) hz
  refine⟨.ref D,dj d D (.lst ((iX (qc (λi=>c.getD i 0) c.length)).map V.int)),T.laid k2 R ⟨?_,B.toList,e,uM hI,zK⟩,rfl,k _ _ _ R2 s2 (gL.mpr ⟨_,_,rfl,lF.of aK,lM _⟩)⟩
  rw[aD,(fM _).length_eq];have:=uK (λi=>c.getD i 0) c.length
  exact bC this (bC Mj (by decide))
noncomputable def afY:PV->Option PV
 | .str a=>some (.bl (Txt.isdigit a))
 | _=>none
def Sj(fo:Gx PV):Gx PV:=bnd fo λp=>lV (afY p)
def JA:MtR X "str.isdigit" (λx xs H Q=>∃a,x=.str a/\xs=[]/\Q (.bl (Txt.isdigit a)) H):=by
 rintro f s σ H x xs v us Q I c rs ⟨a,e1,d,q⟩
 subst e1 d;obtain⟨t,rfl⟩:=c;have b:=rs.zero;subst b;exact SC.isdigit ⟨.bl _,H,I,rfl,q⟩
def abN(ho:PE X o (tE X aa ab fo))(a:attributeBase o "isdigit" X.env (eval o X.env)=eval o X.env)(b:(ap.endLine==cp.line)=true):PE X (.Call (.Attribute o "isdigit" ap) [] [] cp) (tE X aa ab (Sj fo)) :=
 (LX F.plainAttrs_str F.slot_str_isdigit F.type_str_isdigit JA ho a b).imp λσ H Q ⟨F,st,R,h⟩=>⟨F,st,R,h.bnd λp v F1 i c d j f g=>by
  obtain⟨o,e,z⟩:=g.lV;cases p<;>cases e
  rw[di.mp f];exact⟨rfl,_,rfl,rfl,z _ c F1 d (Gr.refl _) (cx.mpr rfl)⟩⟩
end
end L2.U
namespace PySem
open PyProof.Rows
namespace F
def gp:entryFor table "dict.update.loop"=some Builtin.«dict.update.loop» := entryFor_of_tree (by kernel_rfl)
def c7:plainId "dict.update.loop"=true:=by decide +kernel
end F
section
variable {prog:Program} {w:World} {K:Type} [DecidableEq K] {knd:KeyKind prog w K} {A:Around} {R:Result->Shared->Prop} {I:Addr} {fp wr:List Addr} {G:Array GenState->Array GenState->Prop} {n:Nat} {P:Nat->Value->Prop} {St:Nat->Shared->Prop}
def B5(h:Heap)(b:Addr)(a v:Value):Prop:=∃o m,h.get? b=some o/\o.cls=.type "tuple"/\o.data=.seq #[a,v] m
def rJ(hp:B5 s.heap b key v)(h:Q [key,v] s):wpAny (model prog w) A (Builtin.Dict.pairItems (.ref b)) Q E s:=by
 obtain⟨o,m,d,a,c⟩:=hp;unfold Builtin.Dict.pairItems;refine ag (pP ⟨o,d,a⟩ ?_);rw[if_pos (by decide)]
 refine ag ?_;unfold seqItems?;obtain⟨e,g,f,i⟩:=o;simp only at a c;subst a c
 wp_walk
 exact h
def JB(W:WalksS prog w A.in1 I fp wr G n P St)(S:Addr)(l:S∉fp)(hl:kvs.length=n)(hn:n<=sizeLine){s₀:Shared}
  (N:∀i v,P i v->∃b k f u,v=.ref b/\kvs[i]?=some (k,u)/\knd.is k f=true/\b∉S::wr/\B5 s₀.heap b f u) :
  ∀(c i:Nat) (s:Shared),n-i=c->i<=n->St i s->(∀b o,b∉S::wr->s₀.heap.get? b=some o->s.heap.get? b=some o)->s.heap.DictOf knd S (merged [] (kvs.take i)) ->
   (∀a,Moved (S::wr) G s a->a.heap.DictOf knd S (merged [] kvs)->R (.ok (.ret .none)) a) ->
   codeAny (model prog w) A (.builtin "dict.update.loop" ⟨[.ref S,.ref I,rawInt (i:Int),.none],[]⟩) R s:=by
 have p:S∉wr:=λh=>l (W.sub _ h)
 have J:∀b∈wr,b∈S::wr:=by grind
 intro c;induction c with
 | zero =>
  intro i s hk Q t ho hS x;have T:i=n:=by lia
  subst T;refine pH F.gp ?_;rw[sY F.c7 _];refine ag (W.done s _ _ t λa j=>?_)
  refine ag (ao ?_);rw[yf (gS ‹_›)]at hS;refine ao (x a (j.mono J) ?_);obtain⟨o,y,B,q,r⟩:=hS;exact⟨o,y,B,j.heap S _ p q,r⟩
 | succ c ih =>
  intro i s hk Q t ho hS x;have L:i<n:=by lia
  refine pH F.gp ?_;rw[sY F.c7 _];refine ag (W.item i s _ _ L t λv a X Y j=>?_)
  obtain⟨b,k,f,u,rfl,C,Z,D,E⟩:=N i v X;have M:∀b o,b∉S::wr->s₀.heap.get? b=some o->a.heap.get? b=some o:=λb o d e=>j.heap b o (λz=>d (aM _ z)) (ho b o d e)
  refine ag (fy ?_);refine ag (wpAny_tryCatch (rJ (by
   obtain⟨o,m,q,r⟩:=E;exact⟨o,m,M b o D q,r⟩) ?_))
  refine fy ?_;have hsz:(merged [] (kvs.take i)).length<=sizeLine:=by
   have:=merged_length_le ([]:List (K×Value)) (kvs.take i);rw[jQ]at this;simp at this
   lia
  refine wpAny_dictSet_pairs Z (by
   obtain⟨o,y,B,q,r⟩:=hS;exact⟨o,y,B,j.heap S _ p q,r⟩) λh' hd g=>?_
  rw[<-merged_take_succ _ _ _ _ C]at hd;have H:∀b o,b∉S::wr->s₀.heap.get? b=some o->h'.get? b=some o:=λb o d e=>(g.2 b (λh:b=S=>d (by grind))).trans (M b o d e)
  refine ao ⟨yD F.c7 _,ih (i+1) _ (by lia) L (W.frame _ a _ _ Y (fZ ..) λb d o e=>?_) H hd λLQ Xp Xq=>?_⟩
  ·exact(g.2 b (λh:b=S=>l (by grind))).trans e
  ·refine x LQ (Moved.trans W.gtrans ((j.mono J).then_heap (fZ ..) λb o d e=>?_) Xp) Xq
   exact(g.2 b (λh:b=S=>d (by grind))).trans e
end
namespace F
def wx:typeLookup (.type "tuple") "keys"=pure none:=by rw[Eg,DX];kernel_rfl
end F
section
variable {prog:Program} {w:World} {A:Around} {E:Value->Shared->Prop} {s:Shared} {a:Addr} {o:Obj} {xs:Array Value} {k:Nat} {Q:Option Value->Shared->Prop}
def rK(f:s.heap.get? a=some o)(hc:o.cls=.type "tuple")(i:o.data=.seq xs k)(hd:o.dict=none)(q:A.handled=none)
  (h:∀h' tk,(∀b j,s.heap.get? b=some j->h'.get? b=some j)->Q none {s with heap:=h',toks:=tk}) :
  wpAny (model prog w) A (getAttr? (.ref a) "keys") Q E s:=by
 obtain⟨c,r,t,u⟩:=o;simp only at hc i hd;subst hc i hd;obtain⟨hp,g,d,tk,v⟩:=s;have l:∀m,(⟨hp,g,d,m,v⟩:Shared).TypeIs (.ref a) "tuple":=λ_=>⟨_,f,rfl⟩
 have x:=sub_AttributeError;have y:=DO.lookup;have B:=DO.bind (.ref a);have C:=am_tuple_getattr_none;unfold getAttr? getAttrBy? getAttrBy
 repeat (any_goals (first | assumption | exact l _ | ((with_reducible show wpAny _ _ (call (Value.builtin "tuple.__getattribute__") _ _) _ _ _);refine mT DO (l _) am_entry_tuple_getattribute (F.args_tuple_getattribute_2 _ _) (meets_getattribute_miss_tuple a xs k u "keys" _ F.wx (by decide +kernel) (by decide +kernel)) ⟨f,q,λh' m e p=>?_⟩) | wp_step))
 obtain⟨D,H,he⟩:=p.there;show wpAny _ _ (getattributeRaised _ _ _ _ _ _ _) _ _ _;unfold getattributeRaised
 repeat (any_goals (first | assumption | wp_step))
 exact h _ _ p.keeps
end
section
variable {prog:Program} {w:World} {A:Around} {E:Value->Shared->Prop} {s:Shared} {K:Type} [DecidableEq K] {knd:KeyKind prog w K}
def Fi(N:A.handled=none)(R:s.heap.get? l=some ol)(hc:ol.cls=.type "tuple")(T:ol.data=.seq items m)(x:ol.dict=none)
  (Z:∀(i:Nat) (v:Value),items[i]?=some v->∃b k a u,v=.ref b/\kvs[i]?=some (k,u)/\knd.is k a=true/\B5 s.heap b a u) (y:kvs.length=items.size) (p:items.size<=sizeLine)
  (h:∀(h':Heap) (tk:Nat),h'.DictOf knd s.heap.objs.size (merged [] kvs)->(∀b o,b<s.heap.objs.size->s.heap.get? b=some o->h'.get? b=some o)->Q (.ref s.heap.objs.size) {s with heap:=h',toks:=tk}) :
  wpAny (model prog w) A (call (.type "dict") [.ref l]) Q E s:=by
 refine callType_codes (Q₁:=λobj c=>obj=.ref s.heap.objs.size/\c={s with heap:=s.heap.push {cls:=.type "dict",data:=.dict #[]}}) F.kt_called_dict (F.kt_typeCall_dict_1 _) F.entry_dict_init (kt_code_dict_new _ ⟨rfl,rfl⟩) ?_
 rintro obj c ⟨rfl,rfl⟩
 have B:(s.heap.push {cls:=.type "dict",data:=.dict #[]}).DictOf knd s.heap.objs.size []:=Heap.DictOf.new s.heap
 have C:(s.heap.push {cls:=.type "dict",data:=.dict #[]}).get? l=some ol:=bA _ R
 have D:=br R;refine⟨B.typeIs,F.args_dict_init_2 _ _,?_⟩;unfold Builtin.«dict.__init__»;refine ag ?_;unfold Builtin.Dict.selfAndRest;refine ag (wpAny_notOrdered_dict B.typeIs ?_);refine ao ?_;show wpAny _ _ (Builtin.Dict.updateFrom "dict.__init__" s.heap.objs.size (.ref l) [] .none) _ _ _;unfold Builtin.Dict.updateFrom;refine ag (pP ⟨ol,C,hc⟩ ?_);rw[if_pos (by decide)]
 refine ag (rK C hc T x (by simp[N]) λf tk2 q=>?_)
 rw[if_pos (show(none:Option Value).isNone=true from rfl)]
 have H:=q l ol C;have X:f.DictOf knd s.heap.objs.size []:=by
  obtain⟨o,I,J,g,r⟩:=B;exact⟨o,I,J,q _ _ g,r⟩
 have j:f.IsTuple l items:=⟨ol,H,hc,m,T⟩;refine ag (gD ?_);refine ag ?_;refine DZ j ?_;refine ao ⟨yD F.c7 _,?_⟩;have d:s.heap.objs.size<f.objs.size:=by
  obtain⟨o,_,_,g,_⟩:=X;exact br g
 have L:=bL (pQ D d);have Ff:∀i (v:Value),items[i]?=some v->∃b k a u,v=.ref b/\kvs[i]?=some (k,u)/\knd.is k a=true/\b∉[s.heap.objs.size,f.objs.size]/\B5 s.heap b a u:=λi v hv=>by
  obtain⟨b,k,a,u,e1,e2,e3,Y⟩:=Z i v hv;refine⟨b,k,a,u,e1,e2,e3,?_,Y⟩;obtain⟨o,_,ho,_⟩:=Y;have:=br ho;simp only[aW,fw,fA,not_or];exact⟨bL this,bL (pQ this d)⟩
 refine JB (knd:=knd) (s₀:=s) ((Walks.tuple (by simp[N]) f.objs.size l L items).toS) s.heap.objs.size (by grind) y p Ff (items.size-0) 0 _ (by lia) (dE _) ⟨⟨_,cU _ rfl,rfl,rfl⟩,j.push _⟩ (λb o _ e=>bA _ (q _ _ (bA _ e))) ?_ ?_
 ·obtain⟨o,I,J,g,r⟩:=X;exact⟨o,I,J,bA _ g,r⟩
 ·intro s' t M;obtain⟨h',g',d',OY,V8⟩:=s';have eg:g'=s.gens:=t.gens;have ed:d'=s.drawn:=t.drawn;have eo:V8=s.os:=t.os;subst eg;subst ed;subst eo;refine⟨rfl,h h' OY M λb o p e=>?_⟩
  refine t.heap b o ?_ (bA _ (q _ _ (bA _ e)));simp only[aW,fw,fA,not_or];exact⟨bL p,bL (pQ p d)⟩
end
end PySem
namespace L2.U
open PySem PySem.Spec PyProof.Rows
section
variable {X:Cx} {a b:Expr} {ta tb:TE} {p cp bp:Pos}
def qH(K:W.Frag)(H:Hp):List V->List (bO×V)->Prop:=Paired λv d=>∃c,v=.ref c/\jx K H c [kV d.1,d.2]
def oA(kvs:List (bO×V)):List (bO×V):=kvs.foldl (λc d=>putK c d.1 d.2) []
def abP(K:W.Frag):R2:=λx y H Q=>∃a b d e c,x=.ref a/\y=.ref b/\jx K H a d/\jx K H b e/\d≠[]/\e≠[]/\d.length+e.length<=1000/\qH K H (d++e) c/\∀p,H p=none->Q (.ref p) (dj H p (.dK (oA c)))
theorem B6:∀{kvs:List (bO×V)} {vs:List (bO×Value)} {acc:List (bO×V)} {c:List (bO×Value)},L2.KV kvs vs->L2.KV acc c->L2.KV (kvs.foldl (λacc d=>putK acc d.1 d.2) acc) (vs.foldl (λacc d=>stored acc d.1 d.2) c)
 | _,_,_,_,.nil,h=>h
 | _,_,_,_,.cons (a:=x) r t,h=>by
  have e:=h.put x.1 r.2;rw[yx,yx];rw[r.1]at e ⊢;exact B6 (t) e
def M7(f:List (bO×V)):∀acc:List (bO×V),(f.foldl (λacc c=>putK acc c.1 c.2) acc).length<=acc.length+f.length:=by
 induction f with
 | nil=>intro acc;simp
 | cons x f ih =>
  intro acc;have:=ih (putK acc x.1 x.2);have:=G9 acc x.1 x.2;rw[yx,aR]
  lia
theorem Hv(I:Inv X M σ H s):∀{vs:List V} {kvs:List (bO×V)},qH X.K H vs kvs->∀{f:List Value},Vals vs f->∃g:List (bO×Value),L2.KV kvs g/\g.length=f.length/\∀(i:Nat) (u:Value),f[i]?=some u->∃b k d w,u=.ref b/\g[i]?=some (k,w)/\(ez X.prog X.w).is k d=true/\B5 s.heap b d w
 | _,_,.nil,f,r=>by
  cases r;exact⟨[],.nil,rfl,λi u h=>by cases h⟩
 | _,_,.cons (b:=j) q t,f,r=>by
  cases r with
  | cons m v =>
   obtain⟨g,x,y,B⟩:=Hv I t v;obtain⟨c,rfl,C⟩:=q;obtain⟨N,D,⟨o,E,J,n,L⟩,_⟩:=I.tuple C;obtain⟨d,w,e,hk,hw⟩:=D.two;subst e;cases m;refine⟨(j.1,w)::g,.cons ⟨rfl,hw⟩ x,by rw[aR,aR,y],λi u l=>?_⟩
   cases i with
   | zero =>
    cases l;exact⟨c,j.1,d,w,rfl,rfl,um hk,o,n,E,J,L⟩
   | succ i=>exact B i u l
def Sk(J:X.A.handled=none)(L:Gl X "dict")(M:X.mg "dict"=none)(N:PE X a ta)(R:PE X b tb)(B:starEach [.BinOp a .Add b bp] X.env=[(false,eval (.BinOp a .Add b bp) X.env)]):PE X (.Call (.Name "dict" p) [.BinOp a .Add b bp] [] cp) (Zc (abP X.K) ta tb):=by
 intro ae s σ H Q I h;refine Call_ (ld_blt I L M (show bootBuiltins "dict"=some (.type "dict") by decide +kernel) (mK (Hu B (wpAny_BinOp (Pw N R I h λv u j x y H2 d T Y q=>?_))) B rfl))
 obtain⟨t1,t2,xs,ys,l,rfl,rfl,Z,h2,h3,h4,h5,h6,q⟩:=q;cases T;cases Y;obtain⟨f,m,p1,_⟩:=d.tuple Z;obtain⟨g,r,p2,_⟩:=d.tuple h2;have hz:f.length+g.length<=1000:=by rw[<-m.length,<-r.length];exact h5
 have ahy:1000<=sizeLine:=by decide
 refine HT.GN p1 p2 (λz=>h3 (m.nN.mp z)) (λz=>absurd (r.nN.mp z) h4) (λz=>?_) (bC ‹_› ‹_›)
 obtain⟨Zm,C,D,g3⟩:=Hv d h6 (m.append r);obtain⟨Zn,ajV⟩:=nw (j.heap.push {cls:=.type "tuple",data:=.seq (f++g).toArray})
 have hsz:(f++g).toArray.size=f.length+g.length:=by simp
 refine Fi (knd:=ez X.prog X.w) J (cU _ rfl) rfl rfl rfl (λi v E=>?_) (by rw[D];simp) (by grind) λh' tk dd kp=>?_
 ·rw[List.getElem?_toArray]at E;obtain⟨c,k,t,w,e1,e2,e3,o,n,e4,e5⟩:=g3 i v E;exact⟨c,k,t,w,e1,e2,e3,o,n,bA _ e4,e5⟩
 ·have hS:j.heap.objs.size<=(j.heap.push {cls:=.type "tuple",data:=.seq (f++g).toArray}).objs.size:=by simp_all
  have P8:=B6 C .nil;refine⟨.ref _,_,d.laid (λb u e=>kp b u (b8 (br e) hS) (bA _ e)) hS ?_,rfl,q _ (d.hok.fresh hS)⟩
  refine⟨?_,kC.mpr (ee (bL (b8 (uo d) hS))),_,P8,dd⟩;have:=M7 l [];have e:=pM C;rw[bK]at D;unfold oA;simp only[tF]at this
  lia
end
def Hw:PV->Option (bO×PV)
 | .nd .aq [k,v]=>(BF k).map λj=>(j,v)
 | _=>none
def xq:List (bO×PV)->aE->aE
 | [],c=>c
 | (k,v)::r,c=>match c.k with
  | .gU t ks=>xq r (oo t [k] v ks c.ps)
  | _=>c
def JC(ps:List PV):Option aE:=if ps.length<=1000 then(c9 Hw ps).map λa=>xq a ⟨.gU false [],[]⟩else none
section
variable {K:W.Frag} {F:Fz}
theorem B7:∀{ps:List PV} {kvs:List (bO×PV)} {vs:List V},c9 Hw ps=some kvs->aI K F ps vs->∃ks:List (bO×V),qH K F.F vs ks/\ks.map (·.1)=kvs.map (·.1)/\aI K F (kvs.map (·.2)) (ks.map (·.2))
 | [],_,_,h,b=>by
  cases h;rw[b.c6];exact⟨[],.nil,rfl,.nil⟩
 | p::ps,kvs,vs,h,b=>by
  obtain⟨u,r,a,e,rfl⟩:=gG h;obtain⟨v,w,rfl,f,b2⟩:=b.cD;obtain⟨ks,g,i,l⟩:=B7 e b2;unfold Hw at a;split at a
  ·rename_i k q;obtain⟨j,e1,rfl⟩:=bE a;obtain⟨c,ws,rfl,d,m⟩:=c5.mp f;obtain⟨x,y,rfl,o,t⟩:=rZ m;rw[uE e1 o]at d;exact⟨(j,y)::ks,.cons ⟨c,rfl,d⟩ g,by rw[aH,aH,i],.cons t l⟩
  ·cases a
theorem Hx:∀{kvs:List (bO×PV)} {ks:List (bO×V)} {acc:List (bO×V)} {ps:List PV},ks.map (·.1)=kvs.map (·.1)->aI K F (kvs.map (·.2)) (ks.map (·.2))->aI K F ps (acc.map (·.2)) ->
  ∃d f,xq kvs ⟨.gU false (acc.map λy=>[y.1]),ps⟩=⟨.gU false d,f⟩/\(ks.foldl (λacc b=>putK acc b.1 b.2) acc).map (λy=>[y.1])=d/\aI K F f ((ks.foldl (λacc b=>putK acc b.1 b.2) acc).map (·.2))
 | [],ks,acc,ps,a,g,c=>by
  have:=List.map_eq_nil_iff.mp a;subst this;exact⟨_,_,rfl,rfl,c⟩
 | (k,q)::kvs,[],acc,ps,a,g,c=>by cases a
 | (k,q)::kvs,(j,v)::ks,acc,ps,a,g,c=>by
  simp only[aH,Ef]at a;obtain⟨rfl,a⟩:=a;obtain⟨x,w,e,m,b2⟩:=g.cD;cases e;obtain⟨d,f,e1,o,p⟩:=Mr m c;obtain⟨i,l,r,t,u⟩:=Hx a b2 p;refine⟨i,l,?_,t,u⟩;show xq kvs (oo false [j] q (acc.map λy=>[y.1]) ps)=_
  rw[e1,<-o];exact r
end
def Sl{K:W.Frag}(h:JC ps=some c)(b:aI K F ps vs):∃ks:List (bO×V),qH K F.F vs ks/\ps.length<=1000/\∃a d,c=⟨.gU false a,d⟩/\(oA ks).map (λy=>[y.1])=a/\aI K F d ((oA ks).map (·.2)):=by
 obtain⟨e,h⟩:=bP h;obtain⟨f,g,rfl⟩:=bE h;obtain⟨ks,i,j,k⟩:=B7 g b;obtain⟨a,l,e1,m,o⟩:=Hx (acc:=[]) j k .nil;exact⟨ks,i,e,a,l,e1,m,o⟩
theorem qH.mono{K:W.Frag}(h:cX F G):∀{vs:List V} {ks:List (bO×V)},qH K F vs ks->qH K G vs ks
 | _,_,.nil=>.nil
 | _,_,.cons ⟨c,e,q⟩ t=>.cons ⟨c,e,bQ h q⟩ (qH.mono h t)
def Sn:PV->Option (List PV)
 | .nd .aq ps=>some ps
 | _=>none
def af3(p q:PV):Gx PV:=λb=>(Sn p).bind λps=>(Sn q).bind λa=>if(ps.isEmpty || a.isEmpty)=true then none else(JC (ps++a)).bind λc=>mZ c b
def B8(fa fb:Gx PV):Gx PV:=bnd fa λp=>bnd fb λq=>af3 p q
section
variable {X:Cx} {aa:Hp} {ab:Fz} {a b e:Expr} {fa fb fe:Gx PV} {p cp bp:Pos}
def Xv(o:X.A.handled=none)(t:Gl X "dict")(u:X.mg "dict"=none)(w:PE X a (tE X aa ab fa))(x:PE X b (tE X aa ab fb))(y:starEach [.BinOp a .Add b bp] X.env=[(false,eval (.BinOp a .Add b bp) X.env)]):PE X (.Call (.Name "dict" p) [.BinOp a .Add b bp] [] cp) (tE X aa ab (B8 fa fb)) :=
 (Sk o t u w x y).imp λσ H Q ⟨F,st,R,h⟩=>⟨F,st,R,h.bnd λq v F1 B H1 C g1 D E=>⟨F1,B,C,E.bnd λI v2 F2 i H2 R2 J b2 L=>by
  obtain⟨r,e1,M⟩:=L;obtain⟨ps,j,e1⟩:=bt e1;obtain⟨N,k,e1⟩:=bt e1;split at e1
  ·cases e1
  ·rename_i d;obtain⟨c,T,e1⟩:=bt e1;have Y:q=.aq ps:=by
    unfold Sn at j;split at j
    ·grind
    ·cases j
   have Z:I=.aq N:=by
    unfold Sn at k;split at k
    ·grind
    ·cases k
   subst Y Z;obtain⟨a1,vs,rfl,l,f⟩:=c5.mp (D.mono J);obtain⟨a2,ws,rfl,TQ,g⟩:=c5.mp b2;obtain⟨ks,k1,m,AO,DI,rfl,e6,e7⟩:=Sl T (f.append g);simp only[Ec,yv,not_or]at d;rw[bK]at m;refine⟨a1,a2,vs,ws,ks,rfl,rfl,bQ R2.sub l,bQ R2.sub TQ,λz=>d.1 ?_,λz=>d.2 ?_,by rw[<-f.length,<-g.length];exact m,k1.mono R2.sub,λp hp=>?_⟩
   ·subst z;exact mJ f.length
   ·subst z;exact mJ g.length
   ·exact Tx.mZ (show Tx X aa ab (b6 X.K) F2 i (mZ ⟨.gU false AO,DI⟩) σ Q from⟨r,e1,M⟩) R2 hp ⟨oA ks,aK,e6,rfl⟩ e7⟩⟩
end
noncomputable def Xw:List PV->Option (List Int)
 | [.int n]=>if 0<=n/\n<=1000 then some (rangeInts 0 1 n.toNat)else none
 | [.int a,.int b]=>if 0<=a/\a<=b/\b<=1000 then some (rangeInts a 1 (b-a).toNat)else none
 | _=>none
def jo(m:Nat)(ps:List PV):Gx PV:=λa=>match m with
 | 0=>some (.ok (.lst ps),a)
 | _=>mZ ⟨.lst,ps⟩ a
def lrg(m:Nat)(ts:Gx (List PV)):Gx PV:=bnd ts λps=>bnd (lV (Xw ps)) λl=>jo m (l.map .int)
def boot_range:bootBuiltins "range"=some (.type "range"):=by kernel_rfl
section
variable {X:Cx} {aa:Hp} {ab:Fz} {e:Expr} {es:List Expr} {ts:Gx (List PV)} {pos p Fg zp:Pos} {m:Nat}
def Tx.jo{st:dB}(h:Tx X aa ab (b6 X.K) F st (jo m ps) σ Q)(R:Rep X.K aa ab F st σ H)(a:H q=none)(b:aI X.K F ps vs):Q (.ref q) (dj H q (.lst vs)):=by
 cases m with
 | zero =>
  obtain⟨r,e1,d⟩:=h;cases e1;obtain⟨R2,c⟩:=R.laid (.lst vs) a;exact d _ _ _ R2 c (gL.mpr ⟨q,vs,rfl,lF.of aK,b.mono c⟩)
 | succ m=>exact Tx.mZ (h) R a aK b
def Fj(h:ItemsOf (fun(i:Nat) (v:Value)=>∃t:Tok,v=Value.int (a+i*c) t) acc n):Vals ((rangeInts a c n).map V.int) acc.toList:=by
 have:∀l k,(∀j v,l[j]?=some v->∃t:Tok,v=Value.int (a+(k+j:Nat)*c) t)->Vals (((List.range' k l.length).map fun(i:Nat)=>a+i*c).map V.int) l:=by
  intro l;induction l with
  | nil=>intro k _;exact .nil
  | cons x l ih =>
   intro k d;obtain⟨t,ht⟩:=d 0 x rfl;rw[aR,List.range'_succ,aH,aH];refine .cons ⟨t,by rw[ht];rfl⟩ (ih (k+1) λj v b=>?_)
   have:=d (j+1) v (by simpa using b)
   rw[show k+(j+1)=k+1+j by lia]at this
   exact this
 have f:=this acc.toList 0 λj v b=>by
  rw[dZ];exact h.2 j v (by rw[<-mL];exact b)
 rw[da,h.1,<-List.range_eq_range']at f;exact f
def abR(hh:X.A.handled=none)(k:Gl X "list")(q:X.mg "list"=none)(hg:Gl X "range")(hm:X.mg "range"=none)(ha:PA X (e::es) (tA X aa ab ts))(hs:starEach (e::es) X.env=(false,eval e X.env)::starEach es X.env)(TQ:(backTo Fg (starEach es X.env)).any (·.1)=false) :
  PE X (.Call (.Name "list" p) [.Call (.Name "range" zp) (e::es) [] Fg] [] pos) (tE X aa ab (lrg m ts)):=by
 rintro Y s σ H Q I ⟨F,st,Rp,h⟩
 refine kD (ld_blt I k q (om .list) ?_ (by decide) (by decide))
 refine mK (Hu rfl ?_) rfl rfl;have hA:=ha Fg Y s σ H (λx H'=>∃y Z ps,Rep X.K aa ab y Z σ H'/\aI X.K y ps x/\Tx X aa ab (b6 X.K) y Z (bnd (lV (Xw ps)) λl=>jo m (l.map .int)) σ Q) I ⟨F,st,Rp,h.bnd λps x F1 bG H1 B g1 i d=>⟨F1,bG,ps,B,i,d⟩⟩
 refine Call_ (ld_blt I hg hm boot_range (mK (thn hA λus s1 z9=>?_) hs TQ))
 obtain⟨x,H1,I1,j,F1,bG,ps,B,i,d⟩:=z9;obtain⟨C,g,d⟩:=At.lV (At.bnd d);have fin:∀r d f (a b c:Int) (t u v:Tok) (n:Nat),(∀b o,s1.heap.get? b=some o->d.get? b=some o)->IsRange d r a b c t u v->Builtin.Range.small a b c=true->Builtin.Range.rangeSize a b c=n->n<=3000->C=rangeInts a c n ->
   wpAny (model X.prog X.w) X.A (call (.type "list") [.ref r]) (EP X Y σ Q) X.xe {s1 with heap:=d,toks:=f}:=λr D f a b c t u v n hk hr E hn w6 L3=>by
  refine call_list_range hh hr E hn (by lia) λh' tk J c' L hS wu=>?_
  have I2:=I1.kept (t':=f) hk;have hz:=I2.hok.fresh (au _);have hv:=Fj wu;rw[<-L3]at hv;refine⟨.ref D.objs.size,dj H1 D.objs.size (.lst (C.map V.int)),I2.laid L (au _) ⟨?_,J.toList,c',hv,hS⟩,rfl,Tx.jo d B hz (lM C)⟩;rw[aD,L3,rangeInts_length];exact bC w6 (by decide)
 clear d;unfold Xw at g;split at g
 ·rename_i n;obtain⟨⟨h0,d⟩,e1⟩:=aU g;obtain⟨v,rfl,bv⟩:=eE i;rw[aN.mp bv]at j;obtain⟨u,rfl,ru⟩:=ki j;obtain⟨tk0,rfl⟩:=ru;refine call_range_1 ?_;refine fin _ _ _ 0 n 1 _ _ _ n.toNat (λb o e=>bA _ e) (IsRange.new ..) ?_ ?_ (by lia) e1.symm
  ·exact small_one (by decide) (by decide) (by lia) (by lia)
  ·unfold Builtin.Range.rangeSize;rw[if_pos (by decide)]
   split<;>lia
 ·rename_i a b;obtain⟨⟨h0,d,D⟩,e1⟩:=aU g;obtain⟨v1,v2,rfl,M,N⟩:=rZ i;rw[aN.mp M,aN.mp N]at j;obtain⟨u1,u2,rfl,R,T⟩:=TN j;obtain⟨k1,rfl⟩:=R;obtain⟨k2,rfl⟩:=T;refine call_range_2 ?_;refine fin _ _ _ a b 1 _ _ _ (b-a).toNat (λb o e=>bA _ e) (IsRange.new ..) (small_one (by lia) (by lia) (by lia) (by lia)) (rangeSize_nat a b) (by lia) e1.symm
 ·cases g
end
section
variable {X:Cx}
def So(a:Operator):Option G2:=WM a
def M8{a:Operator}{g:G2}(h:So a=some g):y0 X (binaryOp a) g:=by
 exact Ru h
end
structure Gm where
 sc:List (Str×NameKind)
 N:List Str
 own:Bool
 fns:List (Str×Nat)
 call:Str->rF
 cons:List (Str×PV)
 dR:List Str
 tabs:List (Str×List (Str×Str))
 cls:List (Str×Nat)
 make:Str->rF
 clss:List Str
 flds:List Str
 /-- what iG in a cell: 1 a list,2 a list of cells,10 a dict Tu keys are tuples -/
 ZC:List (Str×Nat)
 vR:Option ((PV->Gx PV)->Nat->rF)
 zL:Option (Nat×(PV->Gx PV))
def slot(a:Gm)(x:Str):Option Nat:=a.N.findIdx? (· == x)
noncomputable def Pt(a:Gm)(x:Str):Bool:=match a.sc.lookup x with | some .local=>true | some .cell=>true | some .free=>true | _=>false
noncomputable def Zo(a:Gm)(x:Str):Bool:=match a.sc.lookup x with | some .local=>true | some .cell=>a.own | _=>false
noncomputable def AQ(a:Gm)(x:Str):Bool:=match a.sc.lookup x with | some .globalImplicit=>true | _=>false
noncomputable def jq(x:Str):Bool:=!(x==("__debug__":Str))&&!(x==("__classdict__":Str))&&!(x==("__name__":Str))
noncomputable def md(a:Gm)(x:Str):Nat:=(a.ZC.lookup x).getD 0
def JD(m:Nat):Nat:=if m<10 then m-1 else 0
def Xx(X:Cx)(k:Nat)(a:List (Str×Nat))(call:Str->rF):Prop:=∀x n,a.lookup x=some n->∃j f b ps,j<=k/\FnOk X.prog X.w X.K X.mg X.base (jE X.prog X.w) j f b ps (Ju X.K n (call x))/\X.mg x=some (.ref f)/\W.keepIn X.K (.ref f)=true/\gZ X.K b ps []
structure M9 (Γ:Gm) (X:Cx) (rs:(PV->Gx PV)->Nat->rF):Prop where
 ex:∃(st:Stmt) (fs:Addr) (Ur:FuncData) (pr Ns:List Str) (k:Nat) (rb:(PV->Gx PV)->Nat->Gx fD),rs=(λω n=>dJ (rb ω n) Ns.length)/\Ei X.K "spread" "spread" st fs Ur/\X.mg "spread"=some (.ref fs)/\gZ X.K Ur pr []/\dP Ns pr (ay st)/\pr.length=2/\dW (k+2) X.A /\
  (∀(c8:Value) (A:Around) (aB:List Env) (s:Shared) (H:Hp) (E:XK) (aa:Hp) (ab:Fz) (n:Nat) (ω:PV->Gx PV),dW (k+1) (A.deeper (envOfC "spread" (ay st) s.heap.objs.size fs c8))->BX (fV (jE X.prog X.w) X.prog X.w X.K X.mg X.base Ns "spread" (ay st) fs c8 A aB s H E) aa ab n ω ->
   PSs (fV (jE X.prog X.w) X.prog X.w X.K X.mg X.base Ns "spread" (ay st) fs c8 A aB s H E) (dD st) (tS (fV (jE X.prog X.w) X.prog X.w X.K X.mg X.base Ns "spread" (ay st) fs c8 A aB s H E) aa ab (rb ω n))) /\
  Xx X k Γ.fns Γ.call
 lam:Uq X
structure GOk (Γ:Gm) (X:Cx) (aa:Hp) (ab:Fz):Prop where
 names:X.env.scope.names=Γ.sc
 N:X.N=Γ.N
 nd:X.N.Nodup
 kind:X.env.scope.kind=.function
 calm:X.calm=true
 hd:X.A.handled=none
 un:X.A.units+1150<cLine
 own:Γ.own=true->∀x,X.fn x=true
 fns:Um X Γ.fns Γ.call
 cons:∀x p,Γ.cons.lookup x=some p->∃u v,X.mg x=some u/\RelV v u/\∀F,b6 X.K F p v
 dR:∀x,Γ.dR.contains x=true->X.mg x=none
 tabs:∀T rows,Γ.tabs.lookup T=some rows->Hm X.K X.mg X.w.params T rows
 ns:∀x a,W.nsIn X.K mainGlobals x=some (some (.ref a))->X.mg x=some (.ref a)
 Uw:MQ X.K Γ.clss Γ.flds
 cls:∀C n,Γ.cls.lookup C=some n->∃k Ca f fd ps,ClsAt X.K C (.ref Ca)/\Iw X.K Ca/\Mk X.K Ca f/\FnOk X.prog X.w X.K X.mg X.base (jE X.prog X.w) k f fd ps (Ju X.K n (Γ.make C))/\dW (k+1) X.A/\X.mg C=some (.ref Ca)/\gZ X.K fd ps []
 vR:∀rs,Γ.vR=some rs->M9 Γ X rs
 zL:∀n ω,Γ.zL=some (n,ω)->BX X aa ab n ω
def bM:Expr->Bool
 | .Starred _ _=>false
 | .Set _ _ _=>false
 | _=>true
def sg:Expr->Bool
 | .Slice _ _ _ _=>false
 | _=>true
def Hy:Expr->Bool
 | .Tuple _ _ _=>false
 | .ListComp _ _ _ _=>false
 | .SetComp _ _ _ _=>false
 | .DictComp _ _ _ _ _=>false
 | _=>true
def m8:Expr->Bool
 | .ListComp _ _ _ _=>false
 | .SetComp _ _ _ _=>false
 | .DictComp _ _ _ _ _=>false
 | _=>true
def zM:Expr->Bool
 | .Name _ _=>true
 | .Subscript _ _ _=>true
 | .Attribute _ _ _=>true
 | _=>false
def si(h:zM e=true):attributeBase e f env (eval e env)=eval e env:=by
 cases e<;>first | rfl | cases h
def zN(h:Hy e=true):m8 e=true:=by
 cases e<;>first | rfl | cases h
def Fl:Expr->Bool
 | .UnaryOp .Not _ _=>false
 | .BoolOp _ _ _=>false
 | .IfExp _ _ _ _=>false
 | .Compare _ _ _ _=>false
 | _=>true
def cG(h:bM e=true)(b:List Expr)(a:Env):starEach (e::b) a=(false,eval e a)::starEach b a:=by
 cases e<;>first | rfl | cases h
def iY(h:bM e=true)(a:CmpOp):behindInMarks a e=false:=by
 cases e<;>first | rfl | cases h
def iH(h:bM e=true)(a:Env)(x:Value):foldedSetIterable e a x=pure x:=by
 cases e<;>first | rfl | cases h
def B9(h:sg e=true):rR e:=by
 intro o i;cases e<;>first | rfl | cases h
def Na(h:Fl e=true)(b:Env)(c:Sem Value):isTrue e b c=(do let v <-c;standAt e.pos;holding [v] (truthy v)):=by
 cases e with
 | UnaryOp op a p=>cases op<;>first | rfl | cases h
 | BoolOp _ _ _=>cases h
 | IfExp _ _ _ _=>cases h
 | Compare _ _ _ _=>cases h
 | _=>rfl
def iZ(h:m8 e=true)(t:Option Expr)(l:Nat)(a:Env):swapsWith e t l a=pure false:=by
 cases e<;>first | rfl | cases h
def i8(h:a.all bM=true)(b:Env)(pos:Pos):(backTo pos (starEach a b)).any (·.1)=false:=by
 induction a with
 | nil=>rfl
 | cons e a ih =>
  rw[iz,aY]at h;rw[cG h.1];exact ih h.2
def Fm(h:a.all bM=true)(b:Env)(pos:Pos):(backTo pos (starEach a b)).all (λx=>!x.1)=true:=by
 induction a with
 | nil=>rfl
 | cons e a ih =>
  rw[iz,aY]at h;rw[cG h.1];exact ih h.2
def Sq(h:a.all bM=true)(b:a.length<30):((backTo cp (starEach a env)).all (λx=>!x.1)&&(backToKw cp (keywordEach [] env)).all (λx=>x.1.isSome)
   && decide (a.length+([]:List Keyword).length+(if([]:List Keyword).isEmpty then 0 else 1)<30))=true:=by
 rw[Fm h];simp only[Bool.true_and,aY,jP];exact⟨rfl,b⟩
def k9(h:jq x=true):(x==("__debug__":Str))=false/\(x==("__classdict__":Str))=false/\x≠"__name__":=by
 unfold jq at h;simp only[aY,yp]at h;exact⟨h.1.1,h.1.2,by simpa using h.2⟩
noncomputable def zO:Nat->Gm->Expr->Option (Tg×List Nat)
 | 0,_,_=>none
 | n+1,b,e=>match e with
  | .Name x _=>if Zo b x=true then(slot b x).map λi=>(aX i,[i])else none
  | .Tuple c _ _=>(c.foldr (λe r=>(zO n b e).bind λg=>r.map λa=>(eP g.1 a.1,g.2++a.2)) (some (uz,[]))).map λa=>(jZ c.length a.1,a.2)
  | _=>none
def Nb(h:slot a x=some i):a.N[i]?=some x:=by
 unfold slot at h;obtain⟨b,hp,_⟩:=KR.mp h;rw[b7 b];exact dO some (bu hp)
section
variable {Γ:Gm} {X:Cx} {x:Str} {pos:Pos} {aa:Hp} {ab:Fz}
def GOk.af6(G:GOk Γ X aa ab)(h:Pt Γ x=true):ZM X.env.scope x:=by
 unfold Pt at h;unfold ZM;rw[G.names];split at h<;>simp_all
def GOk.Xy(G:GOk Γ X aa ab)(h:Zo Γ x=true):TC X.env.scope x/\(X.fn x=true\/X.env.scope.names.lookup x=some .local):=by
 unfold Zo at h;unfold TC;rw[G.names];split at h
 ·grind
 ·rename_i z;exact⟨.inr z,.inl (G.own h x)⟩
 ·cases h
def GOk.m9(G:GOk Γ X aa ab)(h:AQ Γ x=true):Gl X x:=by
 unfold AQ at h;show X.env.scope.names.lookup x=_;rw[G.names];split at h
 ·assumption
 ·cases h
def GOk.uN(G:GOk Γ X aa ab)(h:slot Γ x=some i):X.N[i]?=some x:=by
 rw[G.N];exact Nb h
theorem oC(G:GOk Γ X aa ab):∀(n:Nat) (e:Expr) (g:Tg×List Nat),zO n Γ e=some g->PG X e (tG X.K aa ab g.1)/\KG g.2 g.1/\(∀a:Env,(assignEach [e] a).map (·.2)=[assign e a])/\∀(b:List Expr) (a:Env),assignEach (e::b) a=(false,assign e a)::assignEach b a
 | 0,_,_,h=>by cases h
 | n+1,e,g,h=>by
  cases e with
  | Name x p =>
   have h:=h;obtain⟨j,h⟩:=bP h;obtain⟨i,z,rfl⟩:=bE h;obtain⟨l,m⟩:=G.Xy j;exact⟨WH i (Pp G.nd (G.uN z) l m),RM i,λ_=>rfl,λ_ _=>rfl⟩
  | Tuple b k p =>
   have all:∀b c,b.foldr (λe r=>(zO n Γ e).bind λg=>r.map λc=>(eP g.1 c.1,g.2++c.2)) (some (uz,[]))=some c ->
     PGs X b (tGs X.K aa ab c.1)/\KGs c.2 c.1/\∀a:Env,(assignEach b a).length=b.length/\(assignEach b a).findIdx? (·.1)=none:=by
    intro b;induction b with
    | nil =>
     intro c h;cases h;exact⟨WI,RN,λa=>⟨rfl,rfl⟩⟩
    | cons e b ih =>
     intro c h;rw[List.foldr_cons]at h;obtain⟨o,e1,h⟩:=bt h;obtain⟨q,z,rfl⟩:=bE h;obtain⟨t,u,y,v⟩:=oC G n e o e1;obtain⟨f,b2,d⟩:=ih q z;refine⟨Ri t f (by grind),Mx u b2,λa=>?_⟩
     rw[v];obtain⟨w,B⟩:=d a;exact⟨by rw[aR,aR,w],by grind⟩
   have h:=h;obtain⟨c,z,rfl⟩:=bE h;obtain⟨f,b2,d⟩:=all b c z;exact⟨aaV G.calm f (d _).1 (d _).2,W6 b2,λ_=>rfl,λ_ _=>rfl⟩
  | _=>cases h
def xt(G:GOk Γ X aa ab)(a:jq x=true)(b:Pt Γ x=true)(c:slot Γ x=some i):PE X (.Name x pos) (Pf i) :=
 pe_var (G.uN c) (G.af6 b) (k9 a).1 (k9 a).2.1
end
def zP(x:Str):Option GC :=
 if x==("len":Str)then some gA
 else if x==("tuple":Str)then some Ja
 else if x==("int":Str)then some Jb
 else if x==("sum":Str)then some Jd
 else if x==("str":Str)then some Jc
 else if x==("sorted":Str)then some Ht
 else none
def Nc:bootBuiltins "sum"=some (.builtin "sum"):=by kernel_rfl
set_option maxHeartbeats 4000000 in
theorem Xz(h:zP x=some g)(j:X.A.handled=none)(b:Gl X x)(c:X.mg x=none)(d:PA X (a::i) (tA X k l ts))
  (he:starEach (a::i) X.env=(false,eval a X.env)::starEach i X.env) (f:(backTo pos (starEach i X.env)).any (·.1)=false):PE X (.Call (.Name x p) (a::i) [] pos) (tE X k l (gI g ts)):=by
 unfold zP at h;split at h
 ·rename_i e;cases h;have e:=bu e;subst e;exact(nL Je b c PySem.boot_len d (by decide) (by decide) he f).imp λ_ _ _ h=>lJ h
 ·split at h
  ·rename_i e;cases h;have e:=bu e;subst e;exact(pY Jf b c (om .tuple) d (by decide) (by decide) he f).imp λ_ _ _ h=>lJ h
  ·split at h
   ·rename_i e;cases h;have e:=bu e;subst e;exact(pY Jg b c (om .int) d (by decide) (by decide) he f).imp λ_ _ _ h=>lJ h
   ·split at h
    ·rename_i e;cases h;have e:=bu e;subst e;exact(nL (Ji j) b c Nc d (by decide) (by decide) he f).imp λ_ _ _ h=>lJ h
    ·split at h
     ·rename_i e;cases h;have e:=bu e;subst e;exact(pY Jh b c (om .str) d (by decide) (by decide) he f).imp λ_ _ _ h=>lJ h
     ·split at h
      ·rename_i e;cases h;have e:=bu e;subst e;exact(nL Fh b c qG d (by decide) (by decide) he f).imp λ_ _ _ h=>lJ h
      ·cases h
def zQ:ScopeKind->Bool
 | .function=>true
 | _=>false
noncomputable def xu(a:Scope):List Str:=(a.names.filter λy=>match y.2 with | .local=>true | .free=>true | _=>false).map (·.1)
def iI(b:Gm)(a:Scope):List (Option Nat):=(xu a).map λx=>match a.names.lookup x with | some .free=>slot b x | _=>none
noncomputable def Fo(b:Gm)(a:Scope):List (Str×NameKind):=a.names.map fun(n,k)=>if(k==NameKind.free&&b.sc.lookup n==some .cell)then(n,NameKind.cell)else(n,k)
def xw(b:Gm)(a:Scope):Gm:={b with sc:=Fo b a,N:=xu a,own:=false,vR:=none,zL:=none}
def uO(b:Gm)(a:Scope)(L:List Nat):Bool :=
 zQ a.kind&&a.names.all (λy=>match y.2 with
  | .cell=>false
  | .local=>(match a.names.lookup y.1 with | some .local=>true | _=>false)
  | .free=>(match b.sc.lookup y.1 with | some .cell=>true | some .free=>true | _=>false)
  | _=>true)&&decide (xu a).Nodup&&L.all λi=>match(iI b a)[i]? with | some none=>true | _=>false
noncomputable def sj(a:Arguments):Option (Str×Pos):=match a.args with
 | [y]=>bif a.posonlyargs.isEmpty&&(a.vararg.isNone&&(a.kwonlyargs.isEmpty&&(a.kw_defaults.isEmpty&&(a.kwarg.isNone&&(a.defaults.isEmpty&&y.annotation.isNone)))))then some (y.arg,y.pos)else none
 | _=>none
def zR(h:sj args=some a):args=oneArg a.1 a.2:=by
 obtain⟨b,as,c,d,e,kw,f⟩:=args;rcases as with _ | ⟨⟨x,an,ap⟩,_ | _⟩
 ·cases h
 ·cases b;rotate_left;cases h;cases c;rotate_left;cases h;cases d;rotate_left;cases h;cases e;rotate_left;cases h;cases kw;rotate_left;cases h;cases f;rotate_left;cases h;cases an;rotate_left;cases h;cases h;rfl
 ·cases h
noncomputable def isFree(k:Option NameKind):Bool:=match k with | some .free=>true | _=>false
def zS(a:Scope):List Str:=(a.names.filter λy=>isFree (some y.2)).map (·.1)
def sk(b:Gm)(a:Scope):List (Option Nat):=(zS a).map (slot b)
def abS(b:Gm)(x:Str)(a:Scope):Gm:={b with sc:=a.names,N:=x::zS a,own:=false,vR:=none,zL:=none,cls:=[]}
def Nd(b:Gm)(x:Str)(a:Scope):Bool :=
 zQ a.kind&&!a.isCoroutine&&!a.isGenerator&&(match a.names.lookup x with | some .local=>true | _=>false)&&a.names.all (λy=>match y.2 with
  | .cell=>false
  | .free=>(match b.sc.lookup y.1 with | some .cell=>true | some .free=>true | _=>false)&&isFree (a.names.lookup y.1)
  | _=>true)&&decide (x::zS a).Nodup
section
variable {Γ:Gm} {X:Cx} {scope:Scope} {L:List Nat} {aa:Hp} {ab:Fz}
def oE(h:uO Γ scope L=true):scope.kind=.function/\(∀y∈scope.names,(match y.2 with
  | .cell=>false
  | .local=>(match scope.names.lookup y.1 with | some .local=>true | _=>false)
  | .free=>(match Γ.sc.lookup y.1 with | some .cell=>true | some .free=>true | _=>false)
  | _=>true)=true)/\(xu scope).Nodup/\∀i∈L,(iI Γ scope)[i]?=some none:=by
 unfold uO at h;simp only[aY,ir,jP]at h;obtain⟨⟨⟨a,b⟩,c⟩,d⟩:=h;refine⟨?_,b,c,λi e=>?_⟩
 ·unfold zQ at a;split at a
  ·assumption
  ·cases a
 ·grind
def Fp(G:GOk Γ X aa ab)(h:uO Γ scope L=true):jH X (xu scope) (iI Γ scope) scope:=by
 obtain⟨c,d,f,g⟩:=oE h;refine⟨c,λy b z=>?_,λy b z=>?_,λy b z=>?_,by unfold iI;rw[aD],λi j x a e=>?_⟩
 ·grind
 ·grind
 ·have:=d y b;rw[z]at this;simp only at this;show X.env.scope.names.lookup y.1=_\/X.env.scope.names.lookup y.1=_;rw[G.names];split at this
  ·grind
  ·grind
  ·cases this
 ·unfold iI at a;rw[cw,e]at a;have a:(match scope.names.lookup x with | some .free=>slot Γ x | _=>none)=some j:=by grind
  split at a
  ·exact⟨G.uN a,by assumption⟩
  ·cases a
def Nf(G:GOk Γ X aa ab)(h:uO Γ scope L=true)(C:Addr)(s:Shared)(H:Hp)(a:List Addr)(b:Hp)(c:Fz):GOk (xw Γ scope) (cW X (xu scope) scope C s H a) b c where
 names:=by
  show(relabel scope X.env).names=Fo Γ scope;have e:∀n,X.env.kindOf n=Γ.sc.lookup n:=λn=>by show X.env.scope.names.lookup n=_;rw[G.names]
  unfold Fo relabel;simp only[G.kind,e]
  congr 1
  funext y
  obtain⟨n,k⟩:=y;simp
 N:=rfl
 nd:=(oE h).2.2.1
 kind:=by
  exact(oE h).1
 calm:=G.calm
 hd:=G.hd
 un:=G.un
 own:=λz=>by cases z
 fns:=G.fns
 cons:=G.cons
 dR:=G.dR
 tabs:=G.tabs
 ns:=G.ns
 Uw:=G.Uw
 cls:=G.cls
 vR:=λ_ z=>by cases z
 zL:=λ_ _ z=>by cases z
def Ng{i:Nat}(h:(zS scope)[i]?=some y):(y,NameKind.free)∈scope.names:=by
 have a:=cK h;unfold zS at a;obtain⟨z,b,rfl⟩:=az.mp a;obtain⟨c,d⟩:=gC.mp b;obtain⟨n,k⟩:=z;cases k<;>first | exact c | cases d
def JE(h:isFree k=true):k=some .free:=by
 unfold isFree at h;split at h
 ·rfl
 ·cases h
def JF{x:Str}(G:GOk Γ X aa ab)(h:Nd Γ x scope=true):uI X x (zS scope) (sk Γ scope) scope/\(x::zS scope).Nodup:=by
 unfold Nd at h;simp only[aY]at h;obtain⟨⟨⟨⟨⟨a,k⟩,l⟩,m⟩,e⟩,f⟩:=h;have b:=ir.mp e;refine⟨⟨?_,by grind,by grind,?_,λy c z=>?_,λy c z=>?_,?_,λi j y e1 d=>?_⟩,fJ f⟩
 ·unfold zQ at a;split at a
  ·assumption
  ·cases a
 ·grind
 ·grind
 ·have:=b y c;rw[z]at this;simp only[aY]at this;have hk:X.env.kindOf y.1=Γ.sc.lookup y.1:=by show X.env.scope.names.lookup y.1=_;rw[G.names]
  rw[hk];have t:=this.1;split at t
  ·grind
  ·grind
  ·cases t
 ·unfold sk;rw[aD]
 ·have g:=Ng d;have:=b _ g;simp only[aY]at this;refine⟨?_,JE this.2⟩;unfold sk at e1;rw[cw,d]at e1;exact G.uN (cL e1)
def Sr(G:GOk Γ X aa ab)(hk:scope.kind=.function)(a:(x::zS scope).Nodup)(b:Xx X k Γ.fns Γ.call)
  {stack:List Env} (hr:dW k (A.deeper (W.envX qual scope s.heap.objs.size fa c cl))) (d:Hp) (g:Fz) :
  GOk (abS Γ x scope) (T5 (jE X.prog X.w) X.prog X.w X.K X.mg X.base (x::zS scope) qual scope fa c cl A stack s H E) d g where
 names:=rfl
 N:=rfl
 nd:=a
 kind:=hk
 calm:=rfl
 hd:=hr.hd
 un:=by
  have:=hr.un;show(A.deeper _).units+1150<cLine
  lia
 own:=λz=>by cases z
 fns:=λy n e=>let ⟨j,f,fd,ps,i,l,m,o,p⟩:=b y n e;⟨j,f,fd,ps,l,hr.mono i,m,o,p⟩
 cons:=G.cons
 dR:=G.dR
 tabs:=G.tabs
 ns:=G.ns
 Uw:=G.Uw
 cls:=λ_ _ z=>by cases z
 vR:=λ_ z=>by cases z
 zL:=λ_ _ z=>by cases z
end
def cJ{a:Type}:Gx a:=λ_=>none
section
variable {X:Cx} {aa:Hp} {ab:Fz} {e:Expr} {es:List Expr}
def xx{C:Prop}(h:tX X aa ab a cJ σ H Q):C:=by
 obtain⟨F,b,R,r,z,_⟩:=h;cases z
def bz:PE X e (tE X aa ab cJ):=λ_ _ _ _ _ _ h=>xx h
def xy:PT X e (tT X aa ab cJ):=λ_ _ _ _ _ _ h=>xx h
def Nh:PW X e (tT X aa ab cJ):=λ_ _ _ _ _ _ _ h=>xx h
def Ux:PA X es (tA X aa ab cJ):=λ_ _ _ _ _ _ _ h=>xx h
def Uy{a:Expr}:PI X a e (ME X aa ab cJ):=λ_ _ _ _ _ _ h=>xx h
end
def bD(m n:Nat)(g:rF)(as:List PV):Gx PV:=λa=>if((m==0)&&(a.h.isEmpty || ah as))=true then qb n g as a else E5 n g as a
def af7(G:FnOk X.prog X.w X.K X.mg X.base (jE X.prog X.w) k f fd ps (Ju X.K n g))(hr:dW k X.A)(a:gZ X.K fd ps []):RY X f (bD m n g):=by
 rintro c H d F st σ e s Q as us i I R b r ⟨q,e1,j⟩
 unfold bD at e1;split at e1
 ·exact abn G hr a c H d F st σ e s Q as us i I R b r ⟨q,e1,j⟩
 ·exact afC G hr a c H d F st σ e s Q as us i I R b r ⟨q,e1,j⟩
def abT(a:Gm):Expr->Nat
 | .Name x _=>JD (md a x)
 | .Attribute _ f _=>JD (md a f)
 | _=>0
def zT(e:Expr):Option {x:Option Expr×Option Expr // ∃p,e=.Slice x.1 x.2 none p}:=match e with
 | .Slice lo a none p=>some ⟨(lo,a),p,rfl⟩
 | _=>none
def af8:Const->Gx PV
 | .int i=>aV (.int i)
 | .bool i=>aV (.bl i)
 | .none=>aV .cf
 | .str i=>aV (.str i)
 | _=>cJ
def XA(a:Gm)(x:Str):Gx PV:=if jq x=true then(if Pt a x=true then(match slot a x with | some i=>rd i | none=>cJ)else if AQ a x=true then(match a.cons.lookup x with | some p=>aV p | none=>cJ)else cJ)else cJ
noncomputable def Fq(a:Expr):Option {x:Str×Expr×List Expr // ∃p q,a=.Call (.Name x.1 p) (x.2.1::x.2.2) [] q}:=match a with
 | .Call (.Name z p) (b::bs) [] q=>some ⟨(z,b,bs),p,q,rfl⟩
 | _=>none
noncomputable def zU(a:Expr)(b:List Expr):Option {x:Str×Expr // b=[]/\∃p q,a=.Call (.Name x.1 p) [x.2] [] q}:=match a,b with
 | .Call (.Name z p) [e] [] q,[]=>some ⟨(z,e),rfl,p,q,rfl⟩
 | _,_=>none
def mw(a:Gm)(x:Str):Bool:=AQ a x&&a.dR.contains x
mutual
noncomputable def bZ:Nat->Gm->Nat->Expr->Gx PV
 | 0,_,_,_=>cJ
 | n+1,d,m,e=>match e with
  | .Constant c _ _=>af8 c
  | .Name x _=>XA d x
  | .BinOp a op b _=>(match So op with | some g=>op2 g (bZ n d 0 a) (bZ n d 0 b) | none=>cJ)
  | .UnaryOp .Not a _=>Wx (bZ n d 0 a)
  | .UnaryOp .USub a _=>BE (bZ n d 0 a)
  | .BoolOp op j _=>Ni n d op j
  | .Compare a ops bs _=>XB n d a ops bs
  | .IfExp c a b _=>dk (wz n d c) (bZ n d m a) (bZ n d m b)
  | .Tuple i _ _=>kU .aq (oF n d m i)
  | .List i _=>(match m with | 0=>kU .lst (oF n d 0 i) | _=>zc (oF n d (JD m) i))
  | .Dict [] [] _=>MN (m==10)
  | .Subscript a b _=>XC n d a b
  | .ListComp elt gens scope _=>XD n d m elt gens scope
  | .Attribute o f _=>if zM o=true then BV f (bZ n d 0 o)else cJ
  | .Call f (a::i) [] cp=>if(a::i).all bM=true then XE n d m f a i cp else cJ
  | .Call (.Attribute o f ap) [] [] cp=>if(zM o&&(ap.endLine==cp.line))=true then(if f==("isdigit":Str)then Sj (bZ n d 0 o)else match E6 f with | some w=>zD w.1 w.2 (bZ n d 0 o) (aV []) | none=>cJ)else cJ
  | _=>cJ
termination_by structural n=>n
noncomputable def XE:Nat->Gm->Nat->Expr->Expr->List Expr->Pos->Gx PV
 | 0,_,_,_,_,_,_=>cJ
 | n+1,b,m,f,a,c,cp=>match f with
  | .Name x _=>if jq x=true then(if AQ b x=true then XF n b m x a c else if Pt b x=true then Nj n b x a c else cJ)else cJ
  | .Subscript v k p=>BU b.fns b.call (bZ n b 0 (.Subscript v k p)) (oF n b 0 (a::c))
  | .Attribute o g ap=>if(zM o&&(ap.endLine==cp.line)&&decide ((a::c).length<30))=true then(match Hl g with | some w=>zD w.1 w.2 (bZ n b 0 o) (oF n b (abT b o) (a::c)) | none=>cJ)else cJ
  | _=>cJ
termination_by structural n=>n
noncomputable def Nj:Nat->Gm->Str->Expr->List Expr->Gx PV
 | 0,_,_,_,_=>cJ
 | n+1,b,x,a,c=>match c,slot b x,b.zL with
  | [],some i,some o=>MR i o.1 o.2 (bZ n b 0 a)
  | _,_,_=>cJ
termination_by structural n=>n
noncomputable def XF:Nat->Gm->Nat->Str->Expr->List Expr->Gx PV
 | 0,_,_,_,_,_=>cJ
 | n+1,b,m,x,a,c=>if x==("spread":Str)then Nk n b a c else match b.fns.lookup x with
  | some k=>bnd (oF n b 0 (a::c)) (bD m k (b.call x))
  | none=>match b.cls.lookup x with
   | some k=>(match m with | 0=>Xh x k (b.make x) (oF n b 0 (a::c)) | _=>cJ)
   | none=>if b.dR.contains x=true then(if x==("isinstance":Str)then Nl n b a c else if(x==("sorted":Str)&&(zU a c).isSome)=true then Nm n b a c else if x==("dict":Str)then XG n b a c else if x==("list":Str)then Nn n b m a c else match zP x with | some g=>gI g (oF n b 0 (a::c)) | none=>cJ)else cJ
termination_by structural n=>n
noncomputable def Nk:Nat->Gm->Expr->List Expr->Gx PV
 | 0,_,_,_=>cJ
 | n+1,b,a,d=>match d with
  | [.Lambda args body scope _]=>(match b.vR,sj args with
   | some rs,some c=>if Nd b c.1 scope=true then Jy rs (bZ n b 0 a) (bZ n (abS b c.1 scope) 0 body) (sk b scope)else cJ
   | _,_=>cJ)
  | _=>cJ
termination_by structural n=>n
noncomputable def Nn:Nat->Gm->Nat->Expr->List Expr->Gx PV
 | 0,_,_,_,_=>cJ
 | n+1,b,m,a,c=>match c with
  | []=>(match Fq a with
   | some ⟨zs,_⟩=>if(zs.1==("range":Str)&&mw b zs.1&&(zs.2.1::zs.2.2).all bM)=true then lrg m (oF n b 0 (zs.2.1::zs.2.2))else cJ
   | none=>cJ)
  | _=>cJ
termination_by structural n=>n
noncomputable def XG:Nat->Gm->Expr->List Expr->Gx PV
 | 0,_,_,_=>cJ
 | n+1,b,a,c=>match c with
  | []=>(match a with
   | .BinOp l .Add r _=>B8 (bZ n b 0 l) (bZ n b 0 r)
   | _=>cJ)
  | _=>cJ
termination_by structural n=>n
noncomputable def Nm:Nat->Gm->Expr->List Expr->Gx PV
 | 0,_,_,_=>cJ
 | n+1,c,a,d=>match zU a d with
  | some ⟨b,_⟩=>if(b.1==("set":Str)&&mw c b.1&&bM b.2)=true then M6 (bZ n c 0 b.2)else cJ
  | none=>cJ
termination_by structural n=>n
noncomputable def Nl:Nat->Gm->Expr->List Expr->Gx PV
 | 0,_,_,_=>cJ
 | n+1,b,a,c=>match c with
  | [.Name t _]=>if mw b t=true then(match G6 t with | some g=>isV g (bZ n b 0 a) | none=>cJ)else cJ
  | _=>cJ
termination_by structural n=>n
noncomputable def XB:Nat->Gm->Expr->List CmpOp->List Expr->Gx PV
 | 0,_,_,_,_=>cJ
 | n+1,d,a,ops,bs=>match ops,bs with
  | [op],[b]=>if bM b=true then(match EV op with | some g=>op2 g (bZ n d 0 a) (bZ n d 0 b) | none=>cJ)else cJ
  | [op,e],[b,c]=>if bM c=true then(match EV op,EV e with | some g,some f=>chain g f (bZ n d 0 a) (bZ n d 0 b) (bZ n d 0 c) | _,_=>cJ)else cJ
  | _,_=>cJ
termination_by structural n=>n
noncomputable def XC:Nat->Gm->Expr->Expr->Gx PV
 | 0,_,_,_=>cJ
 | n+1,c,a,b=>match zT b with
  | some ⟨d,_⟩=>cutE (bZ n c 0 a) (Ss n c d.1) (Ss n c d.2)
  | none=>if sg b=true then(match a with
   | .Name T p=>if(jq T&&AQ c T)=true then(match c.tabs.lookup T with
    | some rows=>MO (λk=>(rows.lookup k).map .fn) (bZ n c 0 b)
    | none=>op2 bf (bZ n c 0 (.Name T p)) (bZ n c 0 b))else op2 bf (bZ n c 0 (.Name T p)) (bZ n c 0 b)
   | a=>op2 bf (bZ n c 0 a) (bZ n c 0 b))else cJ
termination_by structural n=>n
noncomputable def wz:Nat->Gm->Expr->Gx Bool
 | 0,_,_=>cJ
 | n+1,d,e=>match e with
  | .UnaryOp .Not a _=>nY (wz n d a)
  | .BoolOp op f _=>Np n d op f
  | .Compare a [op] [b] _=>if bM b=true then(match EV op with | some g=>toB (op2 g (bZ n d 0 a) (bZ n d 0 b)) | none=>cJ)else cJ
  | .Compare a [op,i] [b,c] _=>if bM c=true then(match EV op,EV i with | some g,some j=>toB (chain g j (bZ n d 0 a) (bZ n d 0 b) (bZ n d 0 c)) | _,_=>cJ)else cJ
  | e=>if Fl e=true then eH (bZ n d 0 e)else cJ
termination_by structural n=>n
noncomputable def Ni:Nat->Gm->BoolOp->List Expr->Gx PV
 | 0,_,_,_=>cJ
 | n+1,c,op,[a]=>bZ n c 0 a
 | n+1,c,.And,a::b::r=>IZ (bZ n c 0 a) (Ni n c .And (b::r))
 | n+1,c,.Or,a::b::r=>orG (bZ n c 0 a) (Ni n c .Or (b::r))
 | _,_,_,_=>cJ
termination_by structural n=>n
noncomputable def Np:Nat->Gm->BoolOp->List Expr->Gx Bool
 | 0,_,_,_=>cJ
 | n+1,c,op,[a]=>wz n c a
 | n+1,c,.And,a::b::r=>dk (wz n c a) (Np n c .And (b::r)) (aV false)
 | n+1,c,.Or,a::b::r=>dk (wz n c a) (aV true) (Np n c .Or (b::r))
 | _,_,_,_=>cJ
termination_by structural n=>n
noncomputable def oF:Nat->Gm->Nat->List Expr->Gx (List PV)
 | 0,_,_,_=>cJ
 | n+1,a,m,[]=>aV []
 | n+1,a,m,e::b=>if bM e=true then aj (bZ n a m e) (oF n a m b)else cJ
termination_by structural n=>n
noncomputable def Ss:Nat->Gm->Option Expr->Gx (Option Int)
 | 0,_,_=>cJ
 | n+1,a,none=>aV none
 | n+1,a,some e=>oi (bZ n a 0 e)
termination_by structural n=>n
noncomputable def Nq:Nat->Gm->Expr->Expr->Gx E3
 | 0,_,_,_=>cJ
 | n+1,b,c,e=>match e with
  | .Call (.Name x p) [a] [] cp=>if(x==("range":Str)&&mw b x&&bM a)=true then He (wc uG (oF n b 0 [a]))
    else if(x==("enumerate":Str)&&mw b x&&bM a&&Uh c)=true then He (xm (bZ n b 0 a))
    else gP (bZ n b 0 (.Call (.Name x p) [a] [] cp))
  | e=>if bM e=true then gP (bZ n b 0 e)else cJ
termination_by structural n=>n
noncomputable def XD:Nat->Gm->Nat->Expr->List Comprehension->Scope->Gx PV
 | 0,_,_,_,_,_=>cJ
 | n+1,a,m,elt,gens,scope=>match gens with
  | [⟨b,iter,ifs,0⟩]=>if bM iter=true then(match zO n (xw a scope) b with
   | some g=>if uO a scope g.2=true then(match ifs with
    | []=>cY (m != 0) (iI a scope) (Nq n a b iter) (kx g.1 (bZ n (xw a scope) (JD m) elt))
    | [c]=>cY (m != 0) (iI a scope) (Nq n a b iter) (lY g.1 (wz n (xw a scope) c) (bZ n (xw a scope) (JD m) elt))
    | _=>cJ)else cJ
   | none=>cJ)else cJ
  | _=>cJ
termination_by structural n=>n
end
def CC(X:Cx)(d:Hp)(e:Fz)(c:Expr)(b:List Comprehension)(a:Scope)(p:Pos)(f:Gx PV):Prop:=PE X (.ListComp c b a p) (tE X d e f) /\
  ∀i x g j,X.N[i]?=some x->X.env.scope.names.lookup x=some .local->swapsWith (.ListComp c b a p) (some (.Name x g)) j.line X.env=pure true ->
   PS X (.Assign [.Name x g] (.ListComp c b a p) j) (tS X d e (dh f (aX i)))
structure Snd (n:Nat):Prop where
 e:∀Γ X aa ab m e,GOk Γ X aa ab->PE X e (tE X aa ab (bZ n Γ m e))
 f:∀Γ X aa ab m f a es cp,GOk Γ X aa ab->(a::es).all bM=true->PE X (.Call f (a::es) [] cp) (tE X aa ab (XE n Γ m f a es cp))
 o:∀Γ X aa ab x a es p cp,GOk Γ X aa ab->(a::es).all bM=true->jq x=true->Pt Γ x=true->PE X (.Call (.Name x p) (a::es) [] cp) (tE X aa ab (Nj n Γ x a es))
 cn:∀Γ X aa ab m x a es p cp,GOk Γ X aa ab->(a::es).all bM=true->jq x=true->AQ Γ x=true->PE X (.Call (.Name x p) (a::es) [] cp) (tE X aa ab (XF n Γ m x a es))
 sp:∀Γ X aa ab a es p cp,GOk Γ X aa ab->(a::es).all bM=true->AQ Γ "spread"=true->PE X (.Call (.Name "spread" p) (a::es) [] cp) (tE X aa ab (Nk n Γ a es))
 st:∀Γ X aa ab a es p cp,GOk Γ X aa ab->(a::es).all bM=true->AQ Γ "sorted"=true->Γ.dR.contains "sorted"=true->PE X (.Call (.Name "sorted" p) (a::es) [] cp) (tE X aa ab (Nm n Γ a es))
 d:∀Γ X aa ab a es p cp,GOk Γ X aa ab->(a::es).all bM=true->AQ Γ "dict"=true->Γ.dR.contains "dict"=true->PE X (.Call (.Name "dict" p) (a::es) [] cp) (tE X aa ab (XG n Γ a es))
 li:∀Γ X aa ab m a es p cp,GOk Γ X aa ab->(a::es).all bM=true->AQ Γ "list"=true->Γ.dR.contains "list"=true->PE X (.Call (.Name "list" p) (a::es) [] cp) (tE X aa ab (Nn n Γ m a es))
 is:∀Γ X aa ab a es p cp,GOk Γ X aa ab->(a::es).all bM=true->AQ Γ "isinstance"=true->Γ.dR.contains "isinstance"=true->PE X (.Call (.Name "isinstance" p) (a::es) [] cp) (tE X aa ab (Nl n Γ a es))
 k:∀Γ X aa ab a ops bs p,GOk Γ X aa ab->PE X (.Compare a ops bs p) (tE X aa ab (XB n Γ a ops bs))
 x:∀Γ X aa ab a b p,GOk Γ X aa ab->PE X (.Subscript a b p) (tE X aa ab (XC n Γ a b))
 t:∀Γ X aa ab e,GOk Γ X aa ab->PT X e (tT X aa ab (wz n Γ e))
 b:∀Γ X aa ab op vs p,GOk Γ X aa ab->PE X (.BoolOp op vs p) (tE X aa ab (Ni n Γ op vs))
 w:∀Γ X aa ab op vs p,GOk Γ X aa ab->PW X (.BoolOp op vs p) (tT X aa ab (Np n Γ op vs))
 a:∀Γ X aa ab m es,GOk Γ X aa ab->PA X es (tA X aa ab (oF n Γ m es))
 l:∀Γ X aa ab e,GOk Γ X aa ab->PO X e (WS X aa ab (Ss n Γ e))
 i:∀Γ X aa ab tg e,GOk Γ X aa ab->PI X tg e (ME X aa ab (Nq n Γ tg e))
 c:∀Γ X aa ab m elt gens scope p,GOk Γ X aa ab->CC X aa ab elt gens scope p (XD n Γ m elt gens scope)
def pI{X:Cx}{a:Hp}{b:Fz}{e:Expr}{c:Prop} [Decidable c] {f g:Gx PV} (h:c->PE X e (tE X a b f)) (h':PE X e (tE X a b g)):PE X e (tE X a b (if c then f else g)):=by
 split
 ·exact h ‹_›
 ·exact h'
def pJ{X:Cx}{a:Hp}{b:Fz}{e:Expr}{c:Prop} [Decidable c] {f:Gx PV} (h:c->PE X e (tE X a b f)):PE X e (tE X a b (if c then f else cJ)):=pI h bz
def jK:PS X s (tS X a b cJ):=λ_ _ _ _ _ _ ⟨F,st,R,r,z,_⟩=>by cases z
def zV:PS X s (tS X a b (dh cJ g)):=λ_ _ _ _ _ _ ⟨F,st,R,r,z,_⟩=>by cases z
def abU{a:Fz}:PO X e (WS X b a cJ):=λ_ _ _ _ _ _ h=>xx h
def Nr:Snd 0 where
 e:=λ_ _ _ _ _ _ _=>bz
 f:=λ_ _ _ _ _ _ _ _ _ _ _=>bz
 o:=λ_ _ _ _ _ _ _ _ _ _ _ _ _=>bz
 cn:=λ_ _ _ _ _ _ _ _ _ _ _ _ _ _=>bz
 sp:=λ_ _ _ _ _ _ _ _ _ _ _=>bz
 st:=λ_ _ _ _ _ _ _ _ _ _ _ _=>bz
 d:=λ_ _ _ _ _ _ _ _ _ _ _ _=>bz
 li:=λ_ _ _ _ _ _ _ _ _ _ _ _ _=>bz
 is:=λ_ _ _ _ _ _ _ _ _ _ _ _=>bz
 k:=λ_ _ _ _ _ _ _ _ _=>bz
 x:=λ_ _ _ _ _ _ _ _=>bz
 t:=λ_ _ _ _ _ _=>xy
 b:=λ_ _ _ _ _ _ _ _=>bz
 w:=λ_ _ _ _ _ _ _ _=>Nh
 a:=λ_ _ _ _ _ _ _=>Ux
 l:=λ_ _ _ _ _ _=>abU
 i:=λ_ _ _ _ _ _ _=>Uy
 c:=λ_ _ _ _ _ _ _ _ _ _=>⟨bz,λ_ _ _ _ _ _ _=>zV⟩
section
variable {n:Nat} (S:Snd n)
include S
def abV(c:Gm)(X:Cx)(d:Hp)(f:Fz)(g:BoolOp)(vs:List Expr)(p:Pos)(G:GOk c X d f):PE X (.BoolOp g vs p) (tE X d f (Ni (n+1) c g vs)):=by
 match g,vs with
 | .And,[]=>exact bz
 | .Or,[]=>exact bz
 | .And,[a]=>exact Lq (S.e c X d f 0 a G)
 | .Or,[a]=>exact Lq (S.e c X d f 0 a G)
 | .And,a::b::r=>exact aaO (S.e c X d f 0 a G) (S.b c X d f .And (b::r) p G)
 | .Or,a::b::r=>exact afg (S.e c X d f 0 a G) (S.b c X d f .Or (b::r) p G)
def abW(c:Gm)(X:Cx)(d:Hp)(e:Fz)(f:BoolOp)(vs:List Expr)(p:Pos)(G:GOk c X d e):PW X (.BoolOp f vs p) (tT X d e (Np (n+1) c f vs)):=by
 match f,vs with
 | .And,[]=>exact Nh
 | .Or,[]=>exact Nh
 | .And,[a]=>exact Pj (S.t c X d e a G)
 | .Or,[a]=>exact VD (S.t c X d e a G)
 | .And,a::b::r=>exact aaM (S.t c X d e a G) (S.w c X d e .And (b::r) p G)
 | .Or,a::b::r=>exact aff (S.t c X d e a G) (S.w c X d e .Or (b::r) p G)
def abX(c:Gm)(X:Cx)(d:Hp)(f:Fz)(m:Nat)(b:List Expr)(G:GOk c X d f):PA X b (tA X d f (oF (n+1) c m b)):=by
 match b with
 | []=>exact aaQ
 | e::b =>
  unfold oF;split
  ·rename_i hp;exact Wy (S.e c X d f m e G) (S.a c X d f m b G) (cG hp _ _)
  ·exact Ux
def abY(a:Gm)(X:Cx)(b:Hp)(c:Fz)(e:Option Expr)(G:GOk a X b c):PO X e (WS X b c (Ss (n+1) a e)):=by
 match e with
 | none=>exact WT
 | some e=>exact WU (S.e a X b c 0 e G)
def abZ(i:Gm)(X:Cx)(d:Hp)(f:Fz)(a:Expr)(j:List CmpOp)(bs:List Expr)(p:Pos)(G:GOk i X d f):PE X (.Compare a j bs p) (tE X d f (XB (n+1) i a j bs)):=by
 rcases j with _ | ⟨op,_ | ⟨m,_ | _⟩⟩<;>rcases bs with _ | ⟨b,_ | ⟨c,_ | _⟩⟩<;>try exact bz
 ·show PE X _ (tE X d f (ite _ _ _));split
  ·rename_i hp;split
   ·rename_i g k;exact aaJ (lK G.un k) (S.e i X d f 0 _ G) (S.e i X d f 0 _ G) (iY hp _)
   ·exact bz
  ·exact bz
 ·show PE X _ (tE X d f (ite _ _ _));split
  ·rename_i hp;split
   ·rename_i g o k l;exact Rc (lK G.un k) (lK G.un l) (S.e i X d f 0 _ G) (S.e i X d f 0 _ G) (S.e i X d f 0 _ G) (iY hp _)
   ·exact bz
  ·exact bz
def ab0(i:Gm)(X:Cx)(d:Hp)(f:Fz)(e:Expr)(G:GOk i X d f):PT X e (tT X d f (wz (n+1) i e)):=by
 have j:∀e,PT X e (tT X d f (if Fl e=true then eH (bZ n i 0 e)else cJ)):=λe=>by
  split
  ·rename_i hp;exact aaL (S.e i X d f 0 _ G) λl=>Na hp _ l
  ·exact xy
 cases e with
 | UnaryOp op=>cases op with
  | Not=>exact aaN (S.t i X d f _ G)
  | _=>exact j _
 | BoolOp=>exact(S.w i X d f _ _ _ G).pt
 | Compare a ops bs =>
  rcases ops with _ | ⟨op,_ | ⟨o,_ | _⟩⟩<;>rcases bs with _ | ⟨b,_ | ⟨c,_ | _⟩⟩<;>try exact j _
  ·show PT X _ (tT X d f (ite _ _ _));split
   ·rename_i hp;split
    ·rename_i g k;exact aaK (lK G.un k) (S.e i X d f 0 _ G) (S.e i X d f 0 _ G) (iY hp _)
    ·exact xy
   ·exact xy
  ·show PT X _ (tT X d f (ite _ _ _));split
   ·rename_i hp;split
    ·rename_i g p k m;exact Rf (lK G.un k) (lK G.un m) (S.e i X d f 0 _ G) (S.e i X d f 0 _ G) (S.e i X d f 0 _ G) (iY hp _)
    ·exact xy
   ·exact xy
 | _=>exact j _
def XH(b:Gm)(X:Cx)(d:Hp)(f:Fz)(a:Expr)(c:List Expr)(p cp:Pos)(G:GOk b X d f)(hp:(a::c).all bM=true)(i:AQ b "sorted"=true)(j:b.dR.contains "sorted"=true):PE X (.Call (.Name "sorted" p) (a::c) [] cp) (tE X d f (Nm (n+1) b a c)):=by
 show PE X _ (tE X d f (match zU a c with | some ⟨o,_⟩=>_ | none=>cJ))
 rcases zU a c with _ | ⟨⟨z,e⟩,rfl,q,r,rfl⟩
 ·exact bz
 ·refine pJ λhc=>?_
  simp only[mw,aY]at hc;obtain⟨⟨g,k,l⟩,m⟩:=hc;have g:=bu g;subst g;exact Xr G.hd (G.m9 i) (G.dR _ j) (G.m9 k) (G.dR _ l) (S.e b X d f 0 _ G) (cG m _ _)
def ab1(b:Gm)(X:Cx)(c:Hp)(d:Fz)(a:Expr)(f:List Expr)(p cp:Pos)(G:GOk b X c d)(hp:(a::f).all bM=true)(g:AQ b "dict"=true)(i:b.dR.contains "dict"=true):PE X (.Call (.Name "dict" p) (a::f) [] cp) (tE X c d (XG (n+1) b a f)):=by
 rw[iz,aY]at hp;cases f with
 | cons=>exact bz
 | nil=>cases a with
  | BinOp l op=>cases op with
   | Add=>exact Xv G.hd (G.m9 g) (G.dR _ i) (S.e b X c d 0 _ G) (S.e b X c d 0 _ G) rfl
   | _=>exact bz
  | _=>exact bz
def XI(c:Gm)(X:Cx)(d:Hp)(e:Fz)(m:Nat)(a:Expr)(f:List Expr)(p cp:Pos)(G:GOk c X d e)(hp:(a::f).all bM=true)(j:AQ c "list"=true)(k:c.dR.contains "list"=true):PE X (.Call (.Name "list" p) (a::f) [] cp) (tE X d e (Nn (n+1) c m a f)):=by
 rw[iz,aY]at hp;cases f with
 | cons=>exact bz
 | nil =>
  show PE X _ (tE X d e (match Fq a with | some ⟨zs,_⟩=>_ | none=>cJ))
  rcases Fq a with _ | ⟨⟨z,b,bs⟩,q,r,rfl⟩
  ·exact bz
  ·refine pJ λhc=>?_
   simp only[mw,aY]at hc;obtain⟨⟨g,l,o⟩,i⟩:=hc;have g:=bu g;subst g;rw[iz,aY]at i;exact abR G.hd (G.m9 j) (G.dR _ k) (G.m9 l) (G.dR _ o) (S.a c X d e 0 _ G) (cG i.1 _ _) (i8 i.2 _ _)
def XJ(c:Gm)(X:Cx)(d:Hp)(f:Fz)(a:Expr)(b:List Expr)(p cp:Pos)(G:GOk c X d f)(hp:(a::b).all bM=true)(i:AQ c "isinstance"=true)(j:c.dR.contains "isinstance"=true):PE X (.Call (.Name "isinstance" p) (a::b) [] cp) (tE X d f (Nl (n+1) c a b)):=by
 cases b with
 | nil=>exact bz
 | cons e b=>cases e with
  | Name t=>cases b with
   | cons=>exact bz
   | nil =>
    refine pJ λhc=>?_
    unfold mw at hc;rw[aY]at hc;rw[iz,aY]at hp;cases k:G6 t with
    | none=>exact bz
    | some g=>exact afl k (G.m9 i) (G.dR _ j) (G.m9 hc.1) (G.dR _ hc.2) (S.e c X d f 0 a G) λb=>cG hp.1 b _
  | _=>exact bz
def ab2(c:Gm)(X:Cx)(d:Hp)(f:Fz)(a b:Expr)(p:Pos)(G:GOk c X d f):PE X (.Subscript a b p) (tE X d f (XC (n+1) c a b)):=by
 show PE X _ (tE X d f (match zT b with | some ⟨j,_⟩=>_ | none=>_))
 rcases zT b with _ | ⟨⟨lo,k⟩,ps,rfl⟩
 ·refine pJ λhp=>?_
  have g:=λa=>afm (pos:=p) G.un (S.e c X d f 0 a G) (S.e c X d f 0 b G) (B9 hp)
  cases a with
  | Name T =>
   refine pI (λhc=>?_) (g _)
   rw[aY]at hc;cases i:c.tabs.lookup T with
   | some rows=>exact abu (G.tabs _ rows i) (G.m9 hc.2) (S.e c X d f 0 _ G) (B9 hp) (k9 hc.1).1
   | none=>exact g _
  | _=>exact g _
 ·exact aa0 (S.e c X d f 0 _ G) (S.l c X d f _ G) (S.l c X d f _ G)
def ab3(d:Gm)(X:Cx)(b:Hp)(c:Fz)(i e:Expr)(G:GOk d X b c):PI X i e (ME X b c (Nq (n+1) d i e)):=by
 have j:∀e,PI X i e (ME X b c (if bM e=true then gP (bZ n d 0 e)else cJ)):=λe=>by
  split
  ·exact Uj (S.e d X b c 0 _ G)
  ·exact Uy
 cases e with
 | Call f as ks=>cases f with
  | Name x p =>
   rcases as with _ | ⟨a,_ | _⟩<;>rcases ks with _ | _<;>try exact j _
   show PI X _ _ (ME X b c (ite _ _ _));split
   ·rename_i hc;simp only[mw,aY]at hc;obtain⟨⟨g,k,l⟩,hp⟩:=hc;have g:=bu g;subst g;exact abh <| MD (G.m9 k) (G.dR _ l) (S.a d X b c 0 _ G) (cG hp _ _)
   ·split
    ·rename_i hc;simp only[mw,aY]at hc;obtain⟨⟨⟨g,k,l⟩,hp⟩,ht⟩:=hc;have g:=bu g;subst g;exact abh <| afz ht (G.m9 k) (G.dR _ l) (S.e d X b c 0 _ G) (cG hp _ _)
    ·exact Uj (S.e d X b c 0 _ G)
  | _=>exact j _
 | _=>exact j _
def Su:CC X a b elt gens scope p cJ:=⟨bz,λ_ _ _ _ _ _ _=>zV⟩
def cI{c:Prop} [Decidable c] (h:c->CC X a b elt gens scope p f):CC X a b elt gens scope p (if c then f else cJ):=by
 split
 ·exact h ‹_›
 ·exact Su
def ab4(l:Gm)(X:Cx)(d:Hp)(f:Fz)(m:Nat)(j:Expr)(b:List Comprehension)(a:Scope)(p:Pos)(G:GOk l X d f):CC X d f j b a p (XD (n+1) l m j b a):=by
 rcases b with _ | ⟨⟨o,iter,ifs,(_ | _) | _⟩,_ | _⟩<;>try exact Su
 refine cI λhp=>?_
 cases J:zO n (xw l a) o with
 | none=>exact Su
 | some g =>
  refine cI λhc=>?_
  have q:=Fp G hc;have r:=(oE hc).2.2.2;have u:=Nf G hc;have v:=S.i l X d f o iter G;have w:=λC s H k=>(oC (u C s H k d f) n o g J).1
  have y:=(oC (u 0 X.s₀ X.aa [] d f) n o g J).2.1;have he:=λC s H k=>S.e _ _ _ _ (JD m) j (u C s H k d f)
  rcases ifs with _ | ⟨c,_ | _⟩
  ·exact⟨(Hb G.calm q v (pb1 w he) (iH hp _)).imp λB H Q h=>MI y r h,λi x L M E I hw=>(Hc G.calm G.nd E I q v (pb1 w he) hw (iH hp _)).imp λD B H h=>MI y r (r9 h)⟩
  ·have ht:=λC s H k=>S.t _ _ _ _ c (u C s H k d f)
   exact⟨(Hb G.calm q v (pb2 w he ht) (iH hp _)).imp λB H Q h=>MJ y r h,λi x L M E I hw=>(Hc G.calm G.nd E I q v (pb2 w he ht) hw (iH hp _)).imp λD B H h=>MJ y r (r9 h)⟩
  ·exact Su
def ab5(b:Gm)(X:Cx)(c:Hp)(d:Fz)(x:Str)(a:Expr)(f:List Expr)(p cp:Pos)(G:GOk b X c d)(hp:(a::f).all bM=true)(g:jq x=true)(j:Pt b x=true):PE X (.Call (.Name x p) (a::f) [] cp) (tE X c d (Nj (n+1) b x a f)):=by
 rw[iz,aY]at hp;cases f with
 | cons=>exact bz
 | nil =>
  show PE X _ (tE X c d (match([]:List Expr),slot b x,b.zL with | [],some i,some o=>_ | _,_,_=>cJ))
  cases k:slot b x with
  | none=>exact bz
  | some=>cases l:b.zL with
   | none=>exact bz
   | some o=>exact abA (G.zL o.1 o.2 l) (xt G g j k) (S.e b X c d 0 a G) (cG hp.1 _ _)
def XM(b:Gm)(X:Cx)(c:Hp)(d:Fz)(a:Expr)(f:List Expr)(p cp:Pos)(G:GOk b X c d)(hp:(a::f).all bM=true)(t:AQ b "spread"=true):PE X (.Call (.Name "spread" p) (a::f) [] cp) (tE X c d (Nk (n+1) b a f)):=by
 rcases f with _ | ⟨e,_ | _⟩
 ·exact bz
 ·cases e with
  | Lambda args body scope =>
   show PE X _ (tE X c d (match b.vR,sj args with | some rs,some u=>_ | _,_=>cJ))
   cases v:b.vR with
   | none=>exact bz
   | some rs=>cases w:sj args with
    | none=>exact bz
    | some u =>
     refine pJ λhc=>?_
     rw[iz,aY]at hp;obtain rfl:=zR w;obtain⟨m,g⟩:=JF G hc;obtain⟨⟨E,fs,I,J,M,k,N,rfl,D,x,y,i,j,hr,B,C⟩,L⟩:=G.vR rs v;exact MS D x y i j L (G.m9 t) hr (S.e b X c d 0 a G) (cG hp.1 _ _) m B λo Q R cl A stack s H q r l=>S.e _ _ q r 0 _ (Sr G m.kind g C l q r)
  | _=>exact bz
 ·cases e<;>exact bz
def ab6(b:Gm)(X:Cx)(l:Hp)(o:Fz)(m:Nat)(x:Str)(a:Expr)(e:List Expr)(p cp:Pos)(G:GOk b X l o)(hp:(a::e).all bM=true)(E:jq x=true)(q:AQ b x=true):PE X (.Call (.Name x p) (a::e) [] cp) (tE X l o (XF (n+1) b m x a e)):=by
 have t:=hp;rw[iz,aY]at t;obtain⟨D,N,R⟩:=k9 E;have u:=S.a b X l o 0 (a::e) G;have v:=cG t.1 e X.env;have w:=i8 t.2 X.env cp;refine pI (λi=>?_) ?_
 ·cases bu i;exact S.sp b X l o a e p cp G hp q
 cases hk:b.fns.lookup x with
 | some k =>
  obtain⟨j,f,I,ps,F,hr,y,B,J⟩:=G.fns _ k hk;exact Xd (af7 F hr J) (G.m9 q) y B u D v w
 | none=>cases hk:b.cls.lookup x with
  | some k=>cases m with
   | zero =>
    obtain⟨j,T,f,I,ps,L,c,M,F,hr,y,B⟩:=G.cls _ k hk;exact(PN (p:=p) M F hr (G.m9 q) y B .nil Bw u D v w).imp λY H Q h=>R7 L c h
   | succ=>exact bz
  | none =>
   refine pJ λr=>pI (λi=>?_) (pI (λi=>?_) (pI (λi=>?_) (pI (λi=>?_) ?_)))
   ·cases bu i;exact S.is b X l o a e p cp G hp q r
   ·cases bu (gQ.mp i).1;exact S.st b X l o a e p cp G hp q r
   ·cases bu i;exact S.d b X l o a e p cp G hp q r
   ·cases bu i;exact S.li b X l o m a e p cp G hp q r
   cases C:zP x with
   | some g=>exact Xz C G.hd (G.m9 q) (G.dR _ r) u v w
   | none=>exact bz
def ab7(b:Gm)(X:Cx)(c:Hp)(d:Fz)(m:Nat)(f a:Expr)(i:List Expr)(cp:Pos)(G:GOk b X c d)(hp:(a::i).all bM=true):PE X (.Call f (a::i) [] cp) (tE X c d (XE (n+1) b m f a i cp)):=by
 have j:=hp;rw[iz,aY]at j;cases f with
 | Name=>exact pJ λk=>pI (λl=>S.cn b X c d m _ a i _ cp G hp k l) (pJ λp=>S.o b X c d _ a i _ cp G hp k p)
 | Subscript=>exact R6 G.fns G.ns (S.e b X c d 0 _ G) (S.a b X c d 0 _ G) (cG j.1 _ _) (i8 j.2 _ _)
 | Attribute o g ap =>
  refine pJ λhc=>?_
  simp only[aY,jP]at hc;cases hw:Hl g with
  | none=>exact bz
  | some w=>exact afD hw (S.e b X c d 0 _ G) (S.a b X c d _ _ G) (si hc.1.1) (Sq hp hc.2) hc.1.2 (cG j.1 _ _) (i8 j.2 _ _)
 | _=>exact bz
def ab8(l:Gm)(X:Cx)(d:Hp)(j:Fz)(m:Nat)(e:Expr)(G:GOk l X d j):PE X e (tE X d j (bZ (n+1) l m e)):=by
 cases e with
 | Constant c=>cases c<;>first | exact bz | exact aaH | exact afd | exact aaG | exact aaI
 | Name x =>
  show PE X _ (tE X d j (XA l x));unfold XA;split
  ·rename_i p;split
   ·rename_i r;split
    ·rename_i i y;exact T9 i (xt G p r y)
    ·exact bz
   ·split
    ·rename_i B;split
     ·rename_i q C;obtain⟨u,v,D,E,H⟩:=G.cons _ q C;exact Bx (GG (G.m9 B) D E (k9 p).1) H
     ·exact bz
    ·exact bz
  ·exact bz
 | BinOp a op b =>
  show PE X _ (tE X d j (match So op with | some g=>op2 g (bZ n l 0 a) (bZ n l 0 b) | none=>cJ))
  cases I:So op with
  | none=>exact bz
  | some=>exact afe (M8 I) (S.e l X d j 0 _ G) (S.e l X d j 0 _ G)
 | UnaryOp op=>cases op with
  | Not=>exact aaP (S.e l X d j 0 _ G)
  | USub=>exact aa3 (S.e l X d j 0 _ G)
  | _=>exact bz
 | BoolOp=>exact S.b l X d j _ _ _ G
 | Compare=>exact S.k l X d j _ _ _ _ G
 | IfExp=>exact afh (S.t l X d j _ G) (S.e l X d j m _ G) (S.e l X d j m _ G)
 | Tuple=>exact aaR (S.a l X d j m _ G)
 | List=>cases m with
  | zero=>exact aaS (S.a l X d j 0 _ G)
  | succ=>exact Wz (S.a l X d j _ _ G)
 | Dict ks J=>rcases ks with _ | _<;>rcases J with _ | _<;>first | exact abt _ | exact bz
 | Subscript=>exact S.x l X d j _ _ _ G
 | ListComp=>exact(S.c l X d j m _ _ _ _ G).1
 | Attribute =>
  show PE X _ (tE X d j (ite _ _ _));split
  ·rename_i L;exact abv (S.e l X d j 0 _ G) (si L)
  ·exact bz
 | Call f as ks=>cases as with
  | cons=>cases ks with
   | cons=>exact bz
   | nil =>
    show PE X _ (tE X d j (ite _ _ _));split
    ·rename_i hp;exact S.f l X d j m _ _ _ _ G hp
    ·exact bz
  | nil=>cases ks with
   | cons=>cases f<;>exact bz
   | nil=>cases f with
    | Attribute =>
     show PE X _ (tE X d j (ite _ _ _));split
     ·rename_i hc;rw[aY]at hc;split
      ·rename_i o;have o:=bu o;subst o;exact abN (S.e l X d j 0 _ G) (si hc.1) hc.2
      split
      ·rename_i w hw;exact abp hw (S.e l X d j 0 _ G) (si hc.1) hc.2
      ·exact bz
     ·exact bz
    | _=>exact bz
 | _=>exact bz
end
theorem snd:∀n:Nat,Snd n
 | 0=>Nr
 | n+1 =>
  have S:=snd n
  ⟨ab8 S,ab7 S,ab5 S,ab6 S,XM S,XH S,ab1 S,XI S,XJ S,abZ S,ab2 S,ab0 S,abV S,abW S,abX S,abY S,ab3 S,ab4 S⟩
structure SOk (Γ:Gm) (X:Cx) (aa:Hp) (ab:Fz):Prop extends GOk Γ X aa ab where
 never:PassesOwn (model X.prog X.w) X.A X.env X.xe
def XN:Expr->Bool
 | .ListComp _ _ _ _=>true
 | _=>false
def Sv:G2:=uA (λ_ _=>true) λi j=>.int (i+j)
def XO:Operator->Option G2
 | .Add=>some Sv
 | _=>none
noncomputable def sI{c:Prop} [Decidable c] (h:c->PS X e (tS X a b f)):PS X e (tS X a b (if c then f else cJ)):=by
 split
 ·exact h ‹_›
 ·exact jK
section
variable {Γ:Gm} {X:Cx} {x:Str} {p sp:Pos} {e:Expr} {op:Operator} {i:Nat} {aa:Hp} {ab:Fz} {fe:Gx PV} {g:G2}
def Sw(h:XO op=some g):y0 X (inplaceOp op) g:=by
 cases op<;>cases h
 exact hJ (BB Py) (λ_ _ _=>trivial) λ_ _ _=>aN.mpr rfl
def Sx{st:dB}(h:rd i st=some r):∃p,st.ρ[i]?=some (some p)/\r=(.ok p,st):=by
 obtain⟨p,e1,a⟩:=bE h;cases z:st.ρ[i]? with
 | none=>rw[z]at e1;cases e1
 | some o =>
  rw[z]at e1;cases o with
  | none=>cases e1
  | some b=>cases e1;exact⟨p,rfl,a.symm⟩
def ab9(ho:y0 X (inplaceOp op) g)(he:PE X e (tE X aa ab fe))(hN:X.N.Nodup)(b:X.N[i]?=some x)(c:TC X.env.scope x)(d:X.fn x=true\/X.env.scope.names.lookup x=some .local):PS X (.AugAssign (.Name x p) op e sp) (tS X aa ab (dh (op2 g (rd i) fe) (aX i))):=by
 refine(VO hN b c he (λf s a H x y v u Q I j m t=>ho f s a H x y v u Q I j m t) d).imp λD a H h=>?_
 obtain⟨F,o,R,h⟩:=r9 h;obtain⟨r,e1,B⟩:=At.bnd h;obtain⟨q,C,rfl⟩:=Sx e1;obtain⟨v,E,J⟩:=R.l.av i q C;refine⟨v,E,F,o,R,Tx.bnd (B) λy w F1 L H1 M T Y Z=>?_⟩
 obtain⟨z,hz,k⟩:=Z.hp;exact⟨aa,ab,F1,L,a,q,y,z,hz,M,J.mono T,Y,k⟩
def Cc(G:GOk Γ X aa ab)(b:slot Γ x=some i)(c:Zo Γ x=true)(he:PE X e (tE X aa ab fe))(a:swapsWith e (some (.Name x p)) sp.line X.env=pure false):PS X (.Assign [.Name x p] e sp) (tS X aa ab (dh fe (aX i))):=by
 obtain⟨d,f⟩:=G.Xy c;exact(VN G.nd (G.uN b) d he a f).imp λD j H h=>r9 h
def Fs :
  (swapsWith (.ListComp elt gens scope cp) (some (.Name x p)) sp.line X.env=pure true/\X.env.scope.names.lookup x=some .local)\/swapsWith (.ListComp elt gens scope cp) (some (.Name x p)) sp.line X.env=pure false:=by
 have e:swapsWith (.ListComp elt gens scope cp) (some (.Name x p)) sp.line X.env=pure (X.env.blockKind==.function&&X.env.kindOf x==some .local&&p.line==(Expr.ListComp elt gens scope cp).pos.line&&!(scope.names.any fun(n,k)=>n==x&&(k==.local || k==.cell))):=rfl
 rw[e];cases a:(X.env.blockKind==.function&&X.env.kindOf x==some .local&&p.line==(Expr.ListComp elt gens scope cp).pos.line&&!(scope.names.any fun(n,k)=>n==x&&(k==.local || k==.cell)))with
 | true =>
  refine .inl ⟨rfl,?_⟩;simp only[aY]at a;exact bu a.1.1.2
 | false=>exact .inr rfl
def JG(h:(m8 e || XN e)=true)(l:Nat)(b:Env):swapsWith e (some (.Attribute a x p)) l b=pure false:=by
 cases e<;>first | rfl | cases h
def Fu(h:sg k=true)(a:Env)(v:Value):assign (.Subscript o k p) a v=(do
   let b <-holding [v] (eval o a)
   let c <-holding [v,b] (eval k a)
   standAt p
   holding [v,b,c] (setItem b c v)
   release [v,b,c] []):=by
 cases k<;>first | rfl | cases h
def Fv(a:Env):swappedStores [.Subscript o k p] e a=pure none:=by
 cases e<;>rfl
end
def WHL:Nat:=8000000
def RET:Str:="[return]"
def asName(n:Nat)(a:Gm)(x:Str)(e:Expr):Gx fD:=if(Zo a x&&(m8 e || XN e))=true then(match slot a x with | some i=>dh (bZ n a (md a x) e) (aX i) | none=>cJ)else cJ
noncomputable def Uz(n:Nat)(a:Gm)(b e:Expr):Gx fD:=match b with
 | .Name x _=>asName n a x e
 | .Tuple c k p=>if Hy e=true then(match zO n a (.Tuple c k p)with | some g=>dh (bZ n a 0 e) g.1 | none=>cJ)else cJ
 | .Subscript o k _=>if(sg k&&m8 e)=true then R0 (bZ n a (abT a o) e) (bZ n a 0 o) (bZ n a 0 k)else cJ
 | .Attribute o f _=>if(m8 e || XN e)=true then E7 a.clss a.flds f (bZ n a (md a f) e) (bZ n a 0 o)else cJ
 | _=>cJ
noncomputable def UA(n:Nat)(a:Gm)(b:Expr)(c:Operator)(e:Expr):Gx fD:=match b with
 | .Name x _=>if Zo a x=true then(match slot a x,XO c with | some i,some g=>dh (op2 g (rd i) (bZ n a 0 e)) (aX i) | _,_=>cJ)else cJ
 | _=>cJ
mutual
noncomputable def XQ:Nat->Gm->Stmt->Gx fD
 | 0,_,_=>cJ
 | n+1,d,st=>match st with
  | .Pass _=>aV .nx
  | .Break _=>aV .bk
  | .Continue _=>aV .ct
  | .Return none _=>aV (.rt .cf)
  | .Return (some e) _=>retS (bZ n d (md d RET) e)
  | .If c a b _=>dk (wz n d c) (mx n d a) (mx n d b)
  | .While c b [] _=>j0 (wz n d c) (mx n d b) WHL
  | .For f iter body [] _=>if bM iter=true then(match zO n d f with | some g=>BN (Nq n d f iter) g.1 (mx n d body) | none=>cJ)else cJ
  | .Expr e _=>if m8 e=true then gj (bZ n d 0 e)else cJ
  | .Assign [f] e _=>Uz n d f e
  | .AugAssign f op e _=>UA n d f op e
  | _=>cJ
termination_by structural n=>n
noncomputable def mx:Nat->Gm->List Stmt->Gx fD
 | 0,_,_=>cJ
 | n+1,a,[]=>aV .nx
 | n+1,a,[st]=>XQ n a st
 | n+1,a,st::b=>er (XQ n a st) (mx n a b)
termination_by structural n=>n
end
structure agb (n:Nat):Prop where
 s:∀Γ X aa ab st,SOk Γ X aa ab->PS X st (tS X aa ab (XQ n Γ st))
 ss:∀Γ X aa ab Zp,SOk Γ X aa ab->PSs X Zp (tS X aa ab (mx n Γ Zp))
def XR:PSs X s (tS X a b cJ):=λ_ _ _ _ _ _ ⟨F,st,R,r,z,_⟩=>by cases z
def XS(G:GOk a X b d):PS X (.Assign [m] e sp) (tS X b d (Uz n a m e)):=by
 have S:=snd n;cases m with
 | Name x p =>
  refine sI λhc=>?_
  rw[aY]at hc;cases j:slot a x with
  | none=>exact jK
  | some i =>
   rcases Ec _ _▸hc.2 with r | l
   ·exact Cc G j hc.1 (S.e a X b d _ _ G) (iZ r _ _ _)
   ·cases e<;>try (exact absurd l bX)
    rcases Fs with⟨z,l⟩ | z
    ·cases n with
     | zero=>exact zV
     | succ n=>exact((snd n).c a X b d _ _ _ _ _ G).2 i x p sp (G.uN j) l z
    ·exact Cc G j hc.1 (S.e a X b d _ _ G) z
 | Tuple q k f =>
  refine sI λhc=>?_
  cases t:zO n a (.Tuple q k f)with
  | none=>exact jK
  | some g =>
   obtain⟨u,w,v,y⟩:=oC G n _ g t;refine aaW (S.e a X b d _ _ G) u (iZ (zN hc) (some (Expr.Tuple q k f)) sp.line X.env) ?_ (v _);cases e<;>first | rfl | cases hc
 | Subscript o k f =>
  refine sI λhc=>?_
  rw[aY]at hc;exact abr G.un (S.e a X b d _ _ G) (S.e a X b d _ _ G) (S.e a X b d _ _ G) (Fu hc.1 _) (iZ hc.2 (some (Expr.Subscript o k f)) sp.line X.env) (Fv _)
 | Attribute=>exact sI λhc=>abw G.Uw (S.e a X b d _ _ G) (S.e a X b d _ _ G) (JG hc _ _)
 | _=>exact jK
def XT(G:GOk a X b c):PS X (.AugAssign d op e sp) (tS X b c (UA n a d op e)):=by
 cases d with
 | Name x p =>
  refine sI λhc=>?_
  cases f:slot a x with
  | none=>exact jK
  | some i=>cases j:XO op with
   | none=>exact jK
   | some g =>
    obtain⟨k,l⟩:=G.Xy hc;exact ab9 (Sw j) ((snd n).e a X b c _ _ G) G.nd (G.uN f) k l
 | _=>exact jK
theorem sns:∀n:Nat,agb n
 | 0=>⟨λ_ _ _ _ _ _=>jK,λ_ _ _ _ _ _=>XR⟩
 | n+1=>by
  have T:=sns n;have S:=snd n;refine⟨λa X d f j G=>?_,λa X d f k G=>?_⟩
  ·cases j with
   | Pass=>exact WC
   | Break=>exact Rh
   | Continue=>exact WD
   | Return e=>cases e with
    | none=>exact WE
    | some e=>exact aaT (S.e a X d f _ _ G.toGOk)
   | If=>exact afi (S.t a X d f _ G.toGOk) (T.ss a X d f _ G) (T.ss a X d f _ G)
   | While c b o=>cases o with
    | nil=>exact Rl WHL G.never (S.t a X d f _ G.toGOk) (T.ss a X d f _ G)
    | cons=>exact jK
   | For l iter body o=>cases o with
    | cons=>exact jK
    | nil =>
     refine sI λhp=>?_
     cases m:zO n a l with
     | none=>exact jK
     | some g=>exact W8 G.never G.calm (S.i a X d f _ _ G.toGOk) (oC G.toGOk n _ g m).1 (T.ss a X d f _ G) (iH hp _)
   | Expr=>exact sI λhc=>WG (S.e a X d f _ _ G.toGOk) (iZ hc _ _ _)
   | Assign p=>rcases p with _ | ⟨_,_ | _⟩<;>first | exact XS G.toGOk | exact jK
   | AugAssign=>exact XT G.toGOk
   | _=>exact jK
  ·rcases k with _ | ⟨j,_ | _⟩
   ·exact WA
   ·exact WB (T.s a X d f j G)
   ·exact Rg (T.s a X d f j G) (T.ss a X d f _ G)
def Fw:Nat:=120
abbrev CT:=Str->rF
def noFn:CT:=λ_ _ _=>none
def XU(P:Pg):List (Str×Nat):=P.cls.map λd=>(d.1,(params d.2).length)
def XW(P:Pg)(x:Str)(st:Stmt)(cls:List (Str×Nat))(make:CT)(vR:Option ((PV->Gx PV)->Nat->rF))(zL:Option (Nat×(PV->Gx PV)))(c:CT):Gm where
 sc:=(ay st).names
 N:=cy st
 own:=true
 fns:=P.defs.map λd=>(d.1,(params d.2).length)
 call:=c
 cons:=P.cons
 dR:=P.dR
 tabs:=P.tabs
 cls:=cls
 make:=make
 clss:=P.cls.map (·.1)
 flds:=P.flds
 ZC:=(P.ZC.lookup x).getD []
 vR:=vR
 zL:=zL
def rdI(P:Pg)(C:Str)(st:Stmt)(c:CT):Gx fD:=mx Fw (XW P C st [] noFn none none c) (dD st)
def Nt(P:Pg)(c:CT):CT:=λC=>match P.cls.lookup C with | some st=>dJ (rdI P C st c) (cy st).length | none=>λ_ _=>none
def XX(P:Pg)(st:Stmt)(c:CT)(ω:PV->Gx PV)(n:Nat):Gx fD:=mx Fw (XW P "spread" st [] noFn none (some (n,ω)) c) (dD st)
def XY(P:Pg)(x:Str)(c:CT):Option ((PV->Gx PV)->Nat->rF):=if P.pU.contains x=true then(P.defs.lookup ("spread":Str)).map λa=>λb n=>dJ (XX P a c b n) (cy a).length else none
def Sy(P:Pg)(x:Str)(st:Stmt)(c:CT):Gx fD:=mx Fw (XW P x st (XU P) (Nt P c) (XY P x c) none c) (dD st)
def run(P:Pg):Nat->CT
 | 0=>noFn
 | k+1=>λx=>match P.defs.lookup x with | some st=>dJ (Sy P x st (run P k)) (cy st).length | none=>λ_ _=>none
def XZ{P:Pg}{k:Nat}{x:Str}{st:Stmt}(h:P.defs.lookup x=some st):run P (k+1) x=dJ (Sy P x st (run P k)) (cy st).length:=by
 show(match P.defs.lookup x with | some st=>dJ (Sy P x st (run P k)) (cy st).length | none=>λ_ _=>none)=_
 rw[h]
theorem lb{b c:Type}(g:b->c)(x:Str):∀l:List (Str×b),(l.map λd=>(d.1,g d.2)).lookup x=(l.lookup x).map g
 | []=>rfl
 | (n,a)::r=>by
  rw[aH,kG,kG];cases x==n with
  | true=>rfl
  | false=>exact lb g x r
section
variable {prog:Program} {w:World} {K:W.Frag} {mg:Str->Option Value} {base:Heap}
def Fx{x:Str}{c T:Addr}(h:W.tabIn K x=some (c,T)):∃f b d a e,W.nsIn K mainGlobals x=some (some (.ref f))/\K.lookup f=some ⟨b,d,.func a,e⟩/\a.code=.ref c:=by
 unfold W.tabIn at h;split at h
 ·grind
 ·cases h
structure X0 (P:Pg) (w:World) (K:W.Frag) (mg:Str->Option Value):Prop where
 fns:∀x st,P.defs.lookup x=some st->∃f fd,Ei K x x st f fd/\gZ K fd (params st) []/\mg x=some (.ref f)/\dP (cy st) (params st) (ay st)
 cons:∀x p,P.cons.lookup x=some p->∃u v,mg x=some u/\RelV v u/\∀F,b6 K F p v
 dR:∀x,P.dR.contains x=true->mg x=none
 tabs:∀T rows,P.tabs.lookup T=some rows->Hm K mg w.params T rows
 ns:∀x a,W.nsIn K mainGlobals x=some (some (.ref a))->mg x=some (.ref a)
 Uw:MQ K (P.cls.map (·.1)) P.flds
 cls:∀C st,P.cls.lookup C=some st->∃Ca f fd,ClsAt K C (.ref Ca)/\Iw K Ca/\Mk K Ca f/\mg C=some (.ref Ca)/\Ei K "__init__" (C++".__init__") st f fd/\gZ K fd (params st) []/\dP (cy st) (params st) (ay st)
 vR:∀x st,P.defs.lookup x=some st->P.pU.contains x=true->x∈dF/\(∃c T,W.tabIn K x=some (c,T)/\W.codeHdIn K c T=true)/\∀st,P.defs.lookup ("spread":Str)=some st->(params st).length=2
def FR(P:Pg)(prog:Program)(w:World)(K:W.Frag)(mg:Str->Option Value)(base:Heap)(k:Nat):Prop:=∀(x:Str) (st:Stmt) (f:Addr) (fd:FuncData),P.defs.lookup x=some st->mg x=some (.ref f)->Ei K x x st f fd->dP (cy st) (params st) (ay st) ->
 FnOk prog w K mg base (jE prog w) (3*k) f fd (params st) (Ju K (params st).length (run P k x))
section
variable {P:Pg} (O:X0 P w K mg) {k:Nat} (ih:FR P prog w K mg base k)
include O ih
def UB{X:Cx}(h1:X.prog=prog)(a:X.w=w)(i:X.K=K)(j:X.mg=mg)(l:X.base=base):Xx X (3*k) (P.defs.map λd=>(d.1,(params d.2).length)) (run P k):=λy n c=>by
 subst h1 a i j l;rw[lb (λm=>(params m).length)]at c
 obtain⟨b,h1,a⟩:=bE c;subst a;obtain⟨e,f,F1,o,g,p⟩:=O.fns y b h1;exact⟨3*k,e,f,params b,au _,ih y b e f h1 g F1 p,g,F1.kp,o⟩
def Nu{st:Stmt}{x q:Str}{f:Addr}{b:Value}{A:Around}{c:List Env}{s:Shared}{H p:Hp}{r:Fz}{E:XK}{a:List (Str×Nat)}{make:CT}{g:Option ((PV->Gx PV)->Nat->rF)}{l:Option (Nat×(PV->Gx PV))}{j:Nat}(S:dP (cy st) (params st) (ay st))
  (hr:dW j (A.deeper (envOfC q (ay st) s.heap.objs.size f b))) (u:3*k<=j) (m:∀C n,a.lookup C=some n->∃k' d e t ps,ClsAt K C (.ref d)/\Iw K d/\Mk K d e/\FnOk prog w K mg base (jE prog w) k' e t ps (Ju K n (make C))/\dW (k'+1) (A.deeper (envOfC q (ay st) s.heap.objs.size f b))/\mg C=some (.ref d)/\gZ K t ps [])
  (v:∀rs,g=some rs->M9 (XW P x st a make g l (run P k)) (fV (jE prog w) prog w K mg base (cy st) q (ay st) f b A c s H E) rs)
  (o:∀n ω,l=some (n,ω)->BX (fV (jE prog w) prog w K mg base (cy st) q (ay st) f b A c s H E) p r n ω) :
  SOk (XW P x st a make g l (run P k)) (fV (jE prog w) prog w K mg base (cy st) q (ay st) f b A c s H E) p r:=by
 refine⟨⟨rfl,rfl,S.nd,S.kind,rfl,hr.hd,?_,λ_ _=>rfl,λy n B=>?_,O.cons,O.dR,O.tabs,O.ns,O.Uw,m,v,o⟩,PassesOwn.leaving⟩
 ·have:=hr.un;show(A.deeper _).units+1150<cLine
  lia
 ·obtain⟨i,e,D,ps,I,J,L,M,N⟩:=UB (X:=fV (jE prog w) prog w K mg base (cy st) q (ay st) f b A c s H E) O ih rfl rfl rfl rfl rfl y n B;exact⟨i,e,D,ps,J,hr.mono (bC I u),L,M,N⟩
def X2{st:Stmt}{x:Str}{f:Addr}{b:Value}{A:Around}{j:List Env}{s:Shared}{H:Hp}{E:XK}{d:List (Str×Nat)}{make:CT}{o:Option ((PV->Gx PV)->Nat->rF)}{p:Option (Nat×(PV->Gx PV))}{rs:(PV->Gx PV)->Nat->rF}(h:P.defs.lookup x=some st)(q:mg x=some (.ref f))(hc:E4 K f b)(r:P.pU≠[]->Bt mg base)
  (hr:dW (3*k+2) (A.deeper (envOfC x (ay st) s.heap.objs.size f b))) (e:XY P x (run P k)=some rs):M9 (XW P x st d make o p (run P k)) (fV (jE prog w) prog w K mg base (cy st) x (ay st) f b A j s H E) rs:=by
 obtain⟨t,e⟩:=bP e;obtain⟨a,e1,rfl⟩:=bE e;obtain⟨u,⟨c,T,ht,v⟩,g⟩:=O.vR x st h t;obtain⟨fs,y,F1,B,C,l⟩:=O.fns _ a e1;refine⟨⟨a,fs,y,params a,cy a,3*k,XX P a (run P k),rfl,F1,C,B,l,g a e1,hr,λb A j s H E D I n Y i ho=>?_,UB O ih rfl rfl rfl rfl rfl⟩,⟨⟨x,c,T,u,ht,v,(by
  obtain⟨J,Z,od,fd,AM,L,g,M⟩:=Fx ht;obtain⟨N,Q,X1,R,m,X⟩:=hc;have:=O.ns x J L;rw[q]at this;cases this;rw[g]at m;cases m;exact X.symm.trans M),rfl⟩,r (λz=>by grind)⟩⟩
 exact(sns Fw).ss _ _ D I _ (Nu O ih l i (fZ _ _) (λ_ _ z=>by cases z) (λ_ z=>by cases z) λ_ _ z=>by cases z;exact ho)
def acb{C:Str}{st:Stmt}{f:Addr}{a:FuncData}(h:P.cls.lookup C=some st)(F:Ei K "__init__" (C++".__init__") st f a)(S:dP (cy st) (params st) (ay st)):FnOk prog w K mg base (jE prog w) (3*k+1) f a (params st) (Ju K (params st).length (Nt P (run P k) C)):=by
 have e:Nt P (run P k) C=dJ (rdI P C st (run P k)) (cy st).length:=by
  unfold Nt;rw[h]
 rw[e];exact ML F S λd A g s H E _ hr b c=>(sns Fw).ss _ _ b c _ (Nu O ih S hr (au _) (λ_ _ z=>by cases z) (λ_ z=>by cases z) λ_ _ z=>by cases z)
end
theorem Nv{P:Pg}(O:X0 P w K mg)(i:P.pU≠[]->Bt mg base):∀(k:Nat),FR P prog w K mg base k
 | 0=>λx d f p h j F S=>by
  have l:∀b H Q E,¬Ju K (params d).length (run P 0 x) b H Q E:=λb H Q E ⟨_,_,_,_,_,_,_,_,_,_,z,_⟩=>by cases z
  exact⟨λb H Q E h=>absurd h (l b H Q E),λA q s H args N b Q E _ _ _ _ h=>absurd h (l b H Q E)⟩
 | k+1=>λx d f p h j F S=>by
  have ih:=Nv (P:=P) O i k;rw[XZ h];refine ML (k:=3*k+2) F S λR A q s H E r hr t u=>(sns Fw).ss _ _ t u _ (Nu O ih S hr (fZ _ _) (λC n g=>?_) (λrs e=>X2 O ih h j r i hr e) λ_ _ z=>by cases z)
  unfold XU at g;rw[lb (λd=>(params d).length)]at g
  obtain⟨m,o,v⟩:=bE g;subst v;obtain⟨y,B,D,a,c,M,I,F1,J,L⟩:=O.cls C m o;exact⟨3*k+1,y,B,D,params m,a,c,M,acb O ih o F1 L,hr,I,J⟩
def JH(a:List Int):PV:=.lst (a.map .int)
theorem Cd{F:Fz}:∀a:List Int,aI K F (a.map .int) (a.map V.int)
 | []=>.nil
 | n::r=>.cons (aN.mpr rfl) (Cd r)
end
theorem j6{c d:Type} [BEq c] [LawfulBEq c] {k:c} {v:d}:∀{l:List (c×d)},l.lookup k=some v->(k,v)∈l
 | [],h=>by cases h
 | (a,b)::l,h=>by
  rw[kG]at h;cases z:k==a with
  | true =>
   rw[z]at h;cases h;rw[bu z];exact aO
  | false =>
   rw[z]at h;exact aM _ (j6 h)
def Iy.at{K:W.Frag}{h:Heap}{b:Str->Option Value}{P:Params}{T:Str}{rows:List (Str×Str)}(x:Iy K P T rows)(X:K.In h)(G:h.Ns mainGlobals b):Hm K b P T rows:=by
 obtain⟨a,d,n,g,i,j,l⟩:=x;refine⟨a,d,n,W.mg_of X G g,i,j,λk fn e=>?_⟩
 obtain⟨f,m,c⟩:=l (k,fn) (j6 e);exact⟨f,m,W.mg_of X G c,c⟩
def K8.at{K:W.Frag}{h a:Heap}{c:Str->Option Value}(b:K8 K)(X:K.In h)(G:h.Ns mainGlobals c)(Y:K.In a):Bt c a :=
 let ⟨bm,o,d,e,f,g,i⟩:=b;⟨bm,o,W.mg_of X G d,e,f,Y _ _ g,i⟩
def Cf(K:W.Frag):List (Addr×Str):=dF.filterMap λx=>(W.tabIn K x).map λa=>(a.2,A6 x)
theorem xA{c d:Type} [BEq c] [LawfulBEq c] {b:c} {q:d}:∀{l:List (c×d)},(l.map (·.1)).Nodup->(b,q)∈l->l.lookup b=some q
 | [],_,h=>nomatch h
 | (a,v)::l,f,h=>by
  rw[aH,jj]at f;rw[kG];rcases aW.mp h with e | g
  ·grind
  ·have:(b==a)=false:=by
    grind
   rw[this];exact xA f.2 g
def JI(K:W.Frag):(Cf K).map (·.1)=dF.filterMap λx=>(W.tabIn K x).map (·.2):=by
 unfold Cf;rw[List.map_filterMap]
 congr 1
 funext x
 cases W.tabIn K x<;>rfl
def nA.tabs{K:W.Frag}{h:Heap}(t:nA K h)(X:K.In h):(∀b q,(Cf K).lookup b=some q->h.get? b=some {cls:=.none,data:=.fields #[]}/\isCodeTable h b/\K.lookup b=none)/\∀H:Hp,(∀b q,(Cf K).lookup b=some q->H b=some (.Eh q))->tY K H:=by
 refine⟨λb q e=>?_,λH g x a c T e=>?_⟩
 ·have d:=j6 e;unfold Cf at d;obtain⟨x,a,i⟩:=td.mp d;obtain⟨f,j,k⟩:=sU.mp i;cases k;obtain⟨l,m,p⟩:=t.at_ x a f.1 f.2 j;obtain⟨o,r,_,_,_,_,_,_,_,u,v,w,y,_⟩:=W.codeHd_of_K X l;exact⟨m,⟨_,o,r,u,v,w,y⟩,p⟩
 ·refine g T (A6 x) (xA (by rw[JI];exact t.nd) ?_)
  exact td.mpr ⟨x,a,by rw[e];rfl⟩
def X3(P:Pg):Bool:=P.pU.isEmpty || (match P.defs.lookup ("spread":Str)with | some st=>(params st).length==2 | none=>true)
def agd{P:Pg}{K:W.Frag}{h:Heap}{t:Str->Option Value}(X:K.In h)(G:h.Ns mainGlobals t)(hd:∀d∈P.defs,K6 K d.1 d.2)
  (hc:∀d∈P.cons,∃u v,W.nsIn K mainGlobals d.1=some (some u)/\RelV v u/\∀F,b6 K F d.2 v) (B:∀x∈P.dR,W.nsIn K mainGlobals x=some none) {w:World} (ht:∀d∈P.tabs,Iy K w.params d.1 d.2) (i:∀d∈P.cls,Vd K d.1 d.2 P.flds) (l:X3 P=true) (m:∀x∈P.pU,Ve K x):X0 P w K t where
 fns:=λx j e=>by
  obtain⟨⟨f,k,a,F,b⟩,s⟩:=hd (x,j) (fq e);exact⟨f,k,F,.all b,W.mg_of X G a,s⟩
 cons:=λx p e=>by
  obtain⟨u,v,a,r,b⟩:=hc (x,p) (fq e);exact⟨u,v,W.mg_of X G a,r,b⟩
 dR:=λx e=>W.mg_none_of X G (B x (by simpa using e))
 tabs:=λT rows e=>(ht (T,rows) (j6 e)).at X G
 ns:=λx a e=>W.mg_of X G e
 Uw:=λC e=>by
  have e:C∈P.cls.map (·.1):=by simpa using e
  obtain⟨d,hd,rfl⟩:=az.mp e;obtain⟨o,f,k,a,M,c,y,F,b,s⟩:=i d hd;exact⟨o,a,c,λg D=>y g (by simpa using D)⟩
 cls:=λC j e=>by
  obtain⟨o,f,k,a,M,c,y,F,b,s⟩:=i (C,j) (fq e);exact⟨o,f,k,a,c,M,W.mg_of X G a,F,.all b,s⟩
 vR:=λx j e q=>by
  obtain⟨E,H⟩:=m x (by simpa using q)
  refine⟨E,H,λJ I=>?_⟩
  unfold X3 at l;rw[I]at l;rcases Bool.or_eq_true_iff.mp l with z | z
  ·rw[yv.mp z]at q;cases q
  ·exact bu z
def Yes(o:Option (Rs PV×List aE)):Prop:=∃h,o=some (.ok (.bl true),h)
def X4{K:W.Frag}{P:Pg}{k:Nat}{H:Hp}{a:Addr}{d:List Int}(hr:Yes (run P k "law" [JH d] []))(hS:lF K H a (d.map V.int)):Ju K 1 (run P k "law") [.ref a] H (λv _=>v=.bl true) λ_ _ _=>False :=
 let ⟨h,e⟩:=hr
 ⟨H,⟨H,[]⟩,[],[JH d],_,h,⟨cX.refl H,cX.refl H,Gr.refl _,λ_ _ e=>.inl e,λn a e=>by simp at e,rfl,mR,λn c a e=>by simp at e⟩,λ_ _ e=>.inl e,.cons (gL.mpr ⟨a,_,rfl,hS,Cd d⟩) .nil,rfl,e,λv f g _ b=>cx.mp b⟩
def Nw{P:Pg}{N:Nat}{x:Str}{st:Stmt}{l:W.OpenLaw}{q:Program}{loose:List Str}{XP:(Str->Option Value)->Heap->Prop}{YP:World->Heap->Prop}{d:DefRec}(r:P.defs.lookup ("law":Str)=some st)(t:params st=[x])
  (I:l.most=some 63) (j:d.name="law") (m:d.params.defaults=[]) (hr:dW (3*N) callerA) (J:X3 P=true) (L:∀(w:World) (h:Heap),YP w h->∃K:W.Frag,K.In h/\K9 P w K/\nA K h)
  (p:∀i:List Int,i.length<=63->Yes (run P N "law" [JH i] [])):W.WalkO q loose XP YP l.row.toRowW d [] (λf vs=>PySem.call f vs):=by
 refine Att.Bh I m λw v y mg mb fa o pm cd M a vs i G Y ho hd GB B Q R C X=>?_
 obtain⟨K,c,T,Z⟩:=L w _ Y;obtain⟨t1,t2⟩:=Z.tabs c;have O:=agd c G.T.g T.hd T.hc T.hb T.ht T.hcl J T.hlm;obtain⟨⟨f,fd,D,F,b⟩,s⟩:=T.hd ("law",st) (fq r);rw[j]at B;have e:=B.symm.trans (W.mg_of c G.T.g D);cases e;rw[t]at b;refine IT (CX:=jE l.prog w) c G.T.g G.T.b G.T.builtins G.T.nolimit X t1 t2 Q R (bC C (by decide)) hr (λE kb _=>?_) (λs u=>.of_eq (b [u] rfl)) (λH hS=>X4 (p i C) hS) (by rintro _ _ _ ⟨_,_,_,_,_,_,_,_,_,_,_,h,_⟩;exact h)
 have k:=Nv (prog:=l.prog) O (λz=>(T.hbm z).at c G.T.g kb) N "law" st _ fd r (W.mg_of c G.T.g D) F s
 rw[t]at k;exact k
abbrev Ev{b:Type}(f:Gx b)(s:dB)(a:b)(c:dB):Prop:=f s=some (.ok a,c)
abbrev Ek {b : Type} (f : Gx b) (s : dB) (a : b) : Prop := Ev f s a s
section
variable {α β:Type} {s s1 s2 s3:dB}
def eB(h:Ev f s a s1)(b:k a s1=r):bnd f k s=r:=by
 show(f s).bind (aaF k)=r;rw[h];exact b
def eI(h:Ev a s b s1)(c:(if b=true then f s1 else g s1)=r):dk a f g s=r:=eB h (by grind)
def iT(h:Ev a s true s1)(b:f s1=r):dk a f g s=r:=eI h b
def iF(h:Ev a s false s1)(b:g s1=r):dk a f g s=r:=eI h b
variable {fa fb fe:Gx PV} {ts:Gx (List PV)} {p q x y z:PV} {ps as:List PV}
def b2(a:Ev fa s x s1)(b:Ev fb s1 y s2)(h:g s2.h x y=some z):Ev (op2 g fa fb) s z s2:=eB a (eB b (by show(g s2.h x y).map _=_;rw[h];rfl))
def cA(a:Ev fa s x s1)(b:Ev ts s1 as s2):Ev (aj fa ts) s (x::as) s2:=eB a (eB b rfl)
def tU(h:Ev ts s ps s1)(a:ps.length<=4000000):Ev (kU .aq ts) s (.aq ps) s1:=eB h (by show(small ps (.nd .aq ps)).map _=_;rw[show small ps (.nd .aq ps)=some (.nd .aq ps)from if_pos a];rfl)
def lS(h:Ev ts s ps s1)(a:ps.length<=4000000):Ev (kU .lst ts) s (.lst ps) s1:=eB h (by show(small ps (.nd .lst ps)).map _=_;rw[show small ps (.nd .lst ps)=some (.nd .lst ps)from if_pos a];rfl)
def bV(a:Ev ts s as s1)(h:g s1.h as=some z):Ev (gI g ts) s z s1:=eB a (by show(g s1.h as).map _=_;rw[h];rfl)
def bT(h:Ev fa s (.bl b) s1):Ev (toB fa) s b s1:=eB h rfl
def tR(h:Ev fa s p s1)(ht:rA s1.h p=some b):Ev (eH fa) s b s1:=eB h (by show(rA s1.h p).map _=_;rw[ht];rfl)
def nB(h:Ev a s b s1):Ev (nY a) s (!b) s1:=eB h rfl
def clV(b:Ev ts s as s1)(c:as.length=n)(a:(s1.h.isEmpty || ah as)=true)(hc:g as []=some (.ok p,h'))(d:k8 h' p=some q):Ev (bnd ts (bD 0 n g)) s q s1:=eB b (by
 unfold bD;rw[a,if_pos (show((0==0)&&true)=true from rfl)]
 unfold qb;rw[if_pos ⟨c,a⟩,hc];show(k8 h' p).map _=_;rw[d];rfl)
def clG(a:Ev ts s as s1)(b:as.length=n)(c:((m==0)&&(s1.h.isEmpty || ah as))=false)(hc:g as s1.h=some (.ok p,h')):Ev (bnd ts (bD m n g)) s p ⟨s1.ρ,h'⟩:=eB a (by
 unfold bD;rw[c,if_neg bX];unfold E5;rw[if_pos b,hc];rfl)
variable {f g:Gx fD} {r:Option (Rs fD×dB)}
def sq(h:Ev f s .nx s1)(a:g s1=r):er f g s=r:=eB h a
def o9(h:Ev f s (.rt p) s1):er f g s=some (.ok (.rt p),s1):=eB h rfl
def aS(h:Ev fa s p s1)(ht:t p s1=some s2):Ev (dh fa t) s .nx s2:=eB h (by show(t p s1).map _=_;rw[ht];rfl)
def rS(h:Ev fa s p s1):Ev (retS fa) s (.rt p) s1:=eB h rfl
def dS(h:Ev fa s p s1):Ev (gj fa) s .nx s1:=eB h rfl
def iJ(e:f ⟨gY n as,h⟩=some (.ok (.rt p),⟨KH,h'⟩)):dJ f n as h=some (.ok p,h'):=by
 unfold dJ;rw[e];rfl
def Sz(e:f ⟨gY n as,h⟩=some (.ok .nx,⟨KH,h'⟩)):dJ f n as h=some (.ok .cf,h'):=by
 unfold dJ;rw[e];rfl
variable {t:Tg} {body:Gx fD}
def fC(ht:t p s=some s1)(a:Ev body s1 .nx s2)(h:dX t body ps s2=r):dX t body (p::ps) s=r:=eB (show Ev (stp (t p)) s .nx s1 by show(t p s).map _=_;rw[ht];rfl) (eB a h)
def fR(ht:t p s=some s1)(a:Ev body s1 (.rt q) s2):dX t body (p::ps) s=some (.ok (.rt q),s2):=eB (show Ev (stp (t p)) s .nx s1 by show(t p s).map _=_;rw[ht];rfl) (eB a rfl)
def fS(h:Ev fi s (.sq ps) s1)(a:dX t body ps s1=r):BN fi t body s=r:=eB h a
def sV(he:Ev fa s p s1)(a:zC p=some h):Ev (gP fa) s (.sq h) s1:=eB he (by show(MF s1.h p).map _=_;unfold MF;rw[a];rfl)
def sG(h:Ev fi s ps s1):Ev (He fi) s (.sq ps) s1:=eB h rfl
theorem Cg:∀{ps:List PV},(∀p∈ps,bd p h=some (F p,h))->fP bd ps h=some (ps.filterMap F,h)
 | [],_=>rfl
 | p::ps,H=>by
  show(bd p h).bind _=_;rw[H p aO];show(fP bd ps h).map _=_;rw[Cg λq a=>H q (aM _ a)]
  cases e:F p with
  | none=>rw[List.filterMap_cons_none e];rfl
  | some v=>rw[List.filterMap_cons_some e];rfl
def cQ(a:Ev fi s (.sq ps) s1)(b:ps.length<=4000000)(c:∀p∈ps,bd (bJ link s1.ρ) p s1.h=some (F p,s1.h)):Ev (cY false link fi bd) s (.lst (ps.filterMap F)) s1:=eB a (by
 show(if ps.length<=gF then fP _ ps s1.h else none).bind _=_
 rw[if_pos (show ps.length<=gF from b),Cg c]
 rfl)
def e1(ht:t p ⟨a,h⟩=some ⟨Jp,h1⟩)(he:Ev fe ⟨Jp,h1⟩ q ⟨b,c⟩):kx t fe a p h=some (some q,c):=by
 unfold kx;rw[ht,dM,he];rfl
def OZ(ht:t p ⟨c,h⟩=some ⟨Jp,h1⟩)(hw:Ev d ⟨Jp,h1⟩ true ⟨a,b⟩)(he:Ev fe ⟨a,b⟩ q ⟨e,i⟩):lY t d fe c p h=some (some q,i):=by
 unfold lY;rw[ht,dM,hw,dM];show(if true=true then(fe ⟨a,b⟩).bind _ else _)=_
 rw[if_pos rfl,he];rfl
def KI(ht:t p ⟨a,h⟩=some ⟨Jp,h1⟩)(hw:Ev b ⟨Jp,h1⟩ false ⟨c,d⟩):lY t b fe a p h=some (none,d):=by
 unfold lY;rw[ht,dM,hw];rfl
end
inductive Sh where
 | num | own | bN (n:Int) | bH (ps:List Sh)
mutual
def enc:Sh->PV
 | .num=>.aq [.str "num"]
 | .own=>.aq [.str "own"]
 | .bN n=>.aq [.str "strip",.int n]
 | .bH ps=>.aq [.str "rec",.aq (cj ps)]
def cj:List Sh->List PV
 | []=>[]
 | s::r=>enc s::cj r
end
mutual
def lv:Sh->List Sh
 | .num=>[.num]
 | .own=>[.own]
 | .bN n=>[.bN n]
 | .bH ps=>il ps
def il:List Sh->List Sh
 | []=>[]
 | s::r=>lv s++il r
end
mutual
def dp:Sh->Nat
 | .bH ps=>su ps+1
 | _=>0
def su:List Sh->Nat
 | []=>0
 | s::r=>max (dp s) (su r)
end
def jr:Sh->Bool
 | .bH _=>false
 | _=>true
theorem lg:∀l:List Sh,cj l=l.map enc
 | []=>rfl
 | s::r=>by simp[cj,lg r]
def qI(a b:List Sh):cj (a++b)=cj a++cj b:=by simp[lg]
def fF(a:List Sh):(cj a).length=a.length:=by simp[lg]
theorem uP:∀a b:List Sh,il (a++b)=il a++il b
 | [],b=>by simp[il]
 | s::r,b=>by simp[il,uP r b]
mutual
theorem zW:∀s:Sh,∀x∈lv s,jr x=true
 | .num,x,h=>by simp[lv]at h;subst h;rfl
 | .own,x,h=>by simp[lv]at h;subst h;rfl
 | .bN n,x,h=>by simp[lv]at h;subst h;rfl
 | .bH ps,x,h=>Ci ps x (by simpa[lv]using h)
theorem Ci:∀ps:List Sh,∀x∈il ps,jr x=true
 | [],x,h=>by simp[il]at h
 | s::r,x,h=>by
  simp only[il,bB]at h;rcases h with h | h
  ·exact zW s x h
  ·exact Ci r x h
end
def Fy(h:jr s=true):lv s=[s]/\dp s=0:=by
 cases s with
 | bH _=>cases h
 | _=>exact⟨by simp[lv],by simp[dp]⟩
mutual
theorem dH:∀s:Sh,noRef (enc s)=true
 | .num=>rfl
 | .own=>rfl
 | .bN _=>rfl
 | .bH ps=>by simp[enc,noRef,ah,sv ps]
theorem sv:∀l:List Sh,ah (cj l)=true
 | []=>rfl
 | s::l=>by simp[cj,ah,dH s,sv l]
end
def xC(hc:h[n]?=some ⟨.lst,ps⟩)(b:ES h q=some a)(c:ps.length+a.length<=4000000):wb (.ref n) [q] ⟨d,h⟩=some (.ok .cf,⟨d,h.set n ⟨.lst,ps++a⟩⟩):=by
 show(ES h q).bind _=_;rw[b,dM];show(zu h (.ref n)).bind _=_;have e:zu h (.ref n)=some (n,⟨.lst,ps⟩):=by
  show(h[n]?).bind _=_;rw[hc];rfl
 rw[e,dM];show(((if ps.length+a.length<=gF then some (ps++a)else none).map _).map _)=_
 rw[if_pos (show ps.length+a.length<=gF from c)]
 rfl
def aC(hc:h[n]?=some ⟨.lst,ps⟩)(a:ps.length<4000000):k0 (iB wa) (.ref n) [q] ⟨b,h⟩=some (.ok .cf,⟨b,h.set n ⟨.lst,ps++[q]⟩⟩):=by
 show(zu h (.ref n)).bind _=_;have e:zu h (.ref n)=some (n,⟨.lst,ps⟩):=by
  show(h[n]?).bind _=_;rw[hc];rfl
 rw[e,dM];show(((if ps.length<gF then some (ps++[q])else none).map _).map _)=_
 rw[if_pos (show ps.length<gF from a)]
 rfl
def sx(h1:Ev b s (.ref n) s1)(hc:s1.h[n]?=some ⟨.lst,ps⟩)(c:Ev ts s1 as s2)(d:w (.ref n) as s2=r):zD "list" w b ts s=r:=by
 refine eB h1 (eB (a:=()) ?_ (eB c d));show((cO s1.h (.ref n)).bind _).map _=_;have e:cO s1.h (.ref n)=some (.lst,ps):=by
  show(s1.h[n]?).bind _=_;rw[hc];rfl
 rw[e];rfl
def Hz(c:CT):Gx fD:=(gj (zD "list" wb (rd 1) (aj (bnd (aj (rd 2) (aV [])) (bD 0 1 (c "leaves"))) (aV []))))
def zX(c:CT):Gx fD :=
 (er (dk (toB (op2 KA (op2 bf (rd 0) (aV (.int 0))) (aV (.str "rec"))))
  (retS (kU .aq (aj (rd 0) (aV []))))
  (aV .nx))
  (er (dh (zc (aV [])) (aX 1))
  (er (BN (gP (op2 bf (rd 0) (aV (.int 1)))) (aX 2) (Hz c))
  (retS (gI Ja (aj (rd 1) (aV [])))))))
def Gives(o:Option (Rs PV×List aE))(q:PV):Prop:=∃p h,o=some (.ok p,h)/\k8 h p=some q
def zY(hp:noRef p=true):k8 h p=some p:=by
 unfold k8;split
 ·rfl
 ·unfold we;rw[if_pos hp]
theorem qJ(X:PV):∀(ps acc:List Sh) (o:Option PV),(∀s∈ps,Gives (c "leaves" [enc s] []) (.aq (cj (lv s))))->acc.length+(il ps).length<=4000000 ->
  ∃a,dX (aX 2) (Hz c) (cj ps) ⟨[some X,some (.ref 0),o],[⟨.lst,cj acc⟩]⟩=some (.ok .nx,⟨[some X,some (.ref 0),a],[⟨.lst,cj (acc++il ps)⟩]⟩)
 | [],acc,o,_,_=>⟨o,by simp[il];rfl⟩
 | s::r,acc,o,h,b=>by
  obtain⟨p,g,d,e⟩:=h s aO;simp only[il,bK]at b;obtain⟨a,ih⟩:=qJ X r (acc++lv s) (some (enc s)) (λs f=>h s (aM _ f)) (by grind)
  refine⟨a,?_⟩;rw[cC]at ih;refine fC rfl (dS (sx rfl rfl (cA (clV rfl rfl (by simp[ah,dH]) d e) rfl) (xC rfl rfl (by rw[fF,fF];lia)))) ?_
  rw[<-qI];exact ih
def lj(h:jr s=true):dJ (zX c) 3 [enc s] []=some (.ok (.aq [enc s]),[]):=by
 cases s with
 | bH _=>cases h
 | _=>kernel_rfl
def FA (h:∀s∈ps,Gives (c "leaves" [enc s] []) (.aq (cj (lv s)))) (a:(il ps).length<=4000000):Gives (dJ (zX c) 3 [enc (.bH ps)] []) (.aq (cj (il ps))):=by
 obtain⟨b,q⟩:=qJ (enc (.bH ps)) ps [] none h (by simpa using a)
 refine⟨_,_,iJ (sq (iF (s1:=⟨[some (enc (.bH ps)),none,none],[]⟩) (bT (by kernel_rfl)) rfl) (sq rfl (sq (fS rfl q) (rS rfl)))),zY ?_⟩
 simp[noRef,sv]
structure eS (R:Nat->CT):Prop where
 run:∀k,R (k+1) "leaves"=dJ (zX (R k)) 3
mutual
theorem eS.all{R:Nat->CT}(A:eS R):∀(s:Sh) (k:Nat),dp s<=k->(lv s).length<=4000000->Gives (R (k+1) "leaves" [enc s] []) (.aq (cj (lv s)))
 | .num,k,_,_=>⟨_,_,by rw[A.run,lj rfl],rfl⟩
 | .own,k,_,_=>⟨_,_,by rw[A.run,lj rfl],rfl⟩
 | .bN n,k,_,_=>⟨_,_,by rw[A.run,lj rfl],rfl⟩
 | .bH ps,0,hd,_=>by simp[dp]at hd
 | .bH ps,k+1,hd,a=>by
  simp only[dp]at hd;simp only[lv]at a;rw[A.run];exact FA (A.each ps k (by lia) a) a
theorem eS.each{R:Nat->CT}(A:eS R):∀ps k,su ps<=k->(il ps).length<=4000000->∀s∈ps,Gives (R (k+1) "leaves" [enc s] []) (.aq (cj (lv s)))
 | [],_,_,_,s,a=>by cases a
 | p::r,k,hd,b,s,a=>by
  simp only[su]at hd;simp only[il,bK]at b;rcases aW.mp a with e | e
  ·rw[e];exact eS.all A p k (by lia) (by lia)
  ·exact eS.each A r k (by lia) (by lia) s e
end
end L2.U
namespace L2.U
open PySem L2
abbrev Rw:=List Int×Int×Int×Sh
noncomputable def qK(k a:Int)(r:Rw):Rw:=(k::r.1,a+r.2.1,r.2.2)
mutual
def tab:Sh->List Rw
 | .num=>[([],0,1,.num)]
 | .own=>[([],0,1,.own)]
 | .bN n=>[([],0,1,.bN n)]
 | .bH ps=>([],0,((il ps).length:Int),.bH ps)::tabs 0 0 ps
def tabs:Nat->Int->List Sh->List Rw
 | _,_,[]=>[]
 | k,a,s::r=>(tab s).map (qK k a)++tabs (k+1) (a+((lv s).length:Int)) r
end
def sz(s:Sh):Int:=((lv s).length:Int)
def jt:List Sh->Nat
 | []=>0
 | s::l=>(tab s).length+jt l
def Nx(h:jr s=true):tab s=[([],0,1,s)]:=by
 cases s with
 | bH _=>cases h
 | _=>rfl
def Cj(s:Sh):∃R,tab s=(([],0,sz s,s):Rw)::R:=by
 cases s with
 | bH ps=>exact⟨tabs 0 0 ps,by simp only[tab,sz,lv]⟩
 | num=>exact⟨[],by simp[tab,sz,lv]⟩
 | own=>exact⟨[],by simp[tab,sz,lv]⟩
 | bN n=>exact⟨[],by simp[tab,sz,lv]⟩
theorem iK:∀(l:List Sh) (k:Nat) (a:Int),(tabs k a l).length=jt l
 | [],_,_=>rfl
 | s::l,k,a=>by simp[tabs,jt,iK l]
def HA(s:Sh):1<=(tab s).length:=by
 obtain⟨R,e⟩:=Cj s;rw[e];simp
theorem Ck:∀l:List Sh,l.length<=jt l
 | []=>au _
 | s::l=>by
  have:=HA s;have:=Ck l;simp only[jt,aR]
  lia
mutual
theorem xB:∀s:Sh,(lv s).length<=(tab s).length
 | .num=>by simp[lv,tab]
 | .own=>by simp[lv,tab]
 | .bN n=>by simp[lv,tab]
 | .bH ps=>by
  have:=FC ps;simp only[lv,tab,aR,iK]
  lia
theorem FC:∀l:List Sh,(il l).length<=jt l
 | []=>by simp[il]
 | s::l=>by
  have:=xB s;have:=FC l;simp only[il,jt,bK]
  lia
end
mutual
theorem UC:∀s:Sh,dp s<=(tab s).length
 | .num=>by simp[dp]
 | .own=>by simp[dp]
 | .bN n=>by simp[dp]
 | .bH ps=>by
  have:=Ny ps;simp only[dp,tab,aR,iK]
  lia
theorem Ny:∀l:List Sh,su l<=jt l
 | []=>by simp[su]
 | s::l=>by
  have:=UC s;have:=Ny l;simp only[su,jt]
  lia
end
mutual
theorem HB:∀(s:Sh),∀r∈tab s,r.1.length<=dp s
 | .num,r,h=>by simp[tab]at h;subst h;simp
 | .own,r,h=>by simp[tab]at h;subst h;simp
 | .bN n,r,h=>by simp[tab]at h;subst h;simp
 | .bH ps,r,h=>by
  simp only[tab,aW]at h;rcases h with rfl | h
  ·simp
  ·simp only[dp];exact Cn ps 0 0 r h
theorem Cn:∀l k a,∀r∈tabs k a l,r.1.length<=su l+1
 | [],_,_,r,h=>by simp[tabs]at h
 | s::l,k,a,r,h=>by
  simp only[tabs,bB,az]at h;simp only[su];rcases h with⟨b,h0,rfl⟩ | h
  ·have:=HB s b h0;simp only[qK,aR]
   lia
  ·have:=Cn l _ _ r h
   lia
end
theorem Co:∀(l:List Sh) (s:Sh),s∈l->(tab s).length<=jt l
 | s::l,t,h=>by
  simp only[jt];rcases aW.mp h with rfl | h
  ·lia
  ·have:=Co l t h
   lia
def JJ(h:s∈ps):(tab s).length<=(tab (.bH ps)).length:=by
 have:=Co ps s h;simp only[tab,aR,iK]
 lia
noncomputable def UD:Sh->Int->Option (Sh×Int)
 | .bH ps,k=>if 0<=k then(ps[k.toNat]?).map λs=>(s,((il (ps.take k.toNat)).length:Int))else none
 | _,_=>none
def walk:Sh->Int->List Int->Option (Sh×Int)
 | s,a,[]=>some (s,a)
 | s,a,k::p=>(UD s k).bind λx=>walk x.1 (a+x.2) p
mutual
theorem Cp:∀(s:Sh),∀r∈tab s,∀b,walk s b r.1=some (r.2.2.2,b+r.2.1)
 | .num,r,h,b=>by simp[tab]at h;subst h;simp[walk]
 | .own,r,h,b=>by simp[tab]at h;subst h;simp[walk]
 | .bN n,r,h,b=>by simp[tab]at h;subst h;simp[walk]
 | .bH ps,r,h,b=>by
  simp only[tab,aW]at h;rcases h with rfl | h
  ·simp[walk]
  ·exact xD ps [] r (by simpa[il]using h) b
theorem xD:∀(c a:List Sh),∀r∈tabs a.length ((il a).length:Int) c,∀b,walk (.bH (a++c)) b r.1=some (r.2.2.2,b+r.2.1)
 | [],a,r,h,b=>by simp[tabs]at h
 | s::c,a,r,h,b=>by
  simp only[tabs,bB,az]at h;rcases h with⟨d,h0,rfl⟩ | h
  ·have:=Cp s d h0 (b+((il a).length:Int));simp only[qK,walk,UD];simp[this]
   lia
  ·have:=xD c (a++[s]) r (by simpa[uP,il]using h) b
   simpa using this
end
end L2.U
namespace L2.U
open PySem PySem.Spec PyProof.Rows
noncomputable def qe:bO->PV
 | .inl i=>.int i
 | .inr x=>.str x
def cP(ks:List bO):PV:=.aq (ks.map qe)
def uQ:Nat:=3000000
abbrev eJ:=List (List bO×Int)
noncomputable def Cq(ks:List (List bO))(k:List bO):Bool:=ks.any λj=>decide (j=k)
def fG(af:eJ)(c:Int)(f:List bO):eJ:=if Cq (af.map (·.1)) f=true then af else af++[(f,c)]
def dw(af:eJ)(c:Int):List (List bO)->eJ
 | []=>af
 | f::r=>dw (fG af c f) c r
def qf(af:eJ)(c:Int)(f:List bO):(fG af c f).length<=af.length+1:=by
 unfold fG;split
 ·lia
 ·grind
theorem qg(c:Int):∀(l:List (List bO)) (af:eJ),(dw af c l).length<=af.length+l.length
 | [],_=>au _
 | g::l,af=>by
  have a:=qg c l (fG af c g);have b:=qf af c g;show(dw (fG af c g) c l).length<=_;rw[aR]
  lia
def toldP(t:List bO×Int):PV:=.aq (t.1.map qe++[.int t.2])
def gM(out:List bO->Option (List (List bO))):Nat->Nat->eJ->Option eJ
 | 0,_,_=>none
 | n+1,k,a=>match a[k]? with
  | none=>some a
  | some t=>(out t.1).bind λfs=>if a.length+fs.length<gF then gM out n (k+1) (dw a k fs)else none
theorem gJ [DecidableEq α]:∀(l U:List α),l.Nodup->(∀x∈l,x∈U)->l.length<=U.length
 | [],_,_,_=>dE _
 | x::l,U,a,b=>by
  rw[jj]at a;have c:=b x aO;have e:=gJ l (U.erase x) a.2 λy d=>(List.mem_erase_of_ne (λz=>a.1 (by grind))).mpr (b y (aM _ d))
  have f:=List.length_erase_of_mem c;have g:=List.length_pos_of_mem c;rw[aR]
  lia
def oG:Cq ks k=true↔k∈ks:=by
 unfold Cq;simp only[List.any_eq_true,jP];exact⟨(by rintro⟨x,h,e⟩;exact e▸h),λh=>⟨k,h,rfl⟩⟩
theorem gK(c:Int):∀(fs:List (List bO)) (af:eJ),∃more:eJ,dw af c fs=af++more/\(∀t∈more,t.2=c/\t.1∈fs)
 | [],af=>⟨[],by rw[dc];rfl,λ_ z=>nomatch z⟩
 | f::fs,af=>by
  obtain⟨more,a,b⟩:=gK c fs (fG af c f);show ∃m,dw (fG af c f) c fs=af++m/\_
  by_cases h:Cq (af.map (·.1)) f=true
  ·have e:fG af c f=af:=by unfold fG;rw[if_pos h]
   rw[e]at a ⊢;exact⟨more,a,λt ht=>⟨(b t ht).1,aM _ (b t ht).2⟩⟩
  ·have e:fG af c f=af++[(f,c)]:=by unfold fG;rw[if_neg h]
   rw[e]at a ⊢;refine⟨(f,c)::more,by rw[a];simp,λt ht=>?_⟩
   rcases aW.mp ht with rfl | ht
   ·grind
   ·grind
theorem uR(c:Int):∀(fs:List (List bO)) (af:eJ),(af.map (·.1)).Nodup->((dw af c fs).map (·.1)).Nodup
 | [],_,h=>h
 | f::fs,af,h=>by
  refine uR c fs (fG af c f) ?_;unfold fG;split
  ·exact h
  ·rename_i g;rw[bU];refine tq.mpr ⟨h,by simp,λa d b e z=>?_⟩
   simp at e;subst z;rw[e]at d;exact g (oG.mpr d)
theorem qh(c:Int):∀(fs:List (List bO)) (af:eJ),∀f∈fs,f∈(dw af c fs).map (·.1)
 | [],_,_,h=>nomatch h
 | g::fs,af,f,h=>by
  rcases aW.mp h with rfl | h
  ·obtain⟨more,a,_⟩:=gK c fs (fG af c f);show f∈(dw (fG af c f) c fs).map (·.1);rw[a,bU];refine fI _ ?_;unfold fG;split
   ·rename_i b;exact oG.mp b
   ·grind
  ·exact qh c fs (fG af c g) f h
section
variable (out:List bO->Option (List (List bO))) (eU:List (List bO))
def UE(af:eJ):Prop:=∀(i:Nat) (f:List bO) (c:Int),af[i]?=some (f,c)->(c = -1/\f∈eU)\/∃(j:Nat) (g:List bO) (d:Int) (fs:List (List bO)),j<i/\c=(j:Int)/\af[j]?=some (g,d)/\out g=some fs/\f∈fs
def FE(af:eJ)(k:Nat):Prop:=∀(j:Nat) (g:List bO) (d:Int),j<k->af[j]?=some (g,d)->∃fs,out g=some fs/\∀f∈fs,f∈af.map (·.1)
def JK:UE out eU (dw [] (-1) eU):=by
 obtain⟨more,a,b⟩:=gK (-1) eU [];rw[f9]at a;intro i f c e;rw[a]at e;obtain⟨d,g⟩:=b _ (cK e);exact .inl ⟨d,g⟩
def Nz{k:Nat}(h:UE out eU af)(hk:af[k]?=some (g,d))(ho:out g=some fs):UE out eU (dw af (k:Int) fs):=by
 obtain⟨more,b,l⟩:=gK k fs af;have C:=(cS.mp hk).1;have a:∀{j:Nat} {x:List bO×Int},af[j]?=some x->(af++more)[j]?=some x:=λ{j x} e=>by
  rw[jN (cS.mp e).1];exact e
 intro i f c e;rw[b]at e ⊢;by_cases m:i<af.length
 ·rw[jN m]at e;rcases h i f c e with z | ⟨j,o,p,q,r,t,u,v,w⟩
  ·exact .inl z
  ·exact .inr ⟨j,o,p,q,r,t,a u,v,w⟩
 ·rw[sO (by lia)]at e
  obtain⟨y,B⟩:=l _ (cK e);exact .inr ⟨k,g,d,fs,by lia,y,a hk,ho,B⟩
def JL(h:FE out af k)(hk:af[k]?=some (g,d))(ho:out g=some fs):FE out (dw af (k:Int) fs) (k+1):=by
 obtain⟨more,b,q⟩:=gK k fs af;have r:=(cS.mp hk).1;intro j c i t e;rw[b]at e;rw[jN (b8 ‹_› ‹_›)]at e;by_cases a:j=k
 ·subst a;rw[hk]at e;cases e;exact⟨fs,ho,qh j fs af⟩
 ·obtain⟨l,m,o⟩:=h j c i (by lia) e
  refine⟨l,m,λf p=>?_⟩
  rw[b,bU];exact fI _ (o f p)
theorem qL(U:List (List bO))(B:Nat)(c:U.length+B<gF)(b:∀g∈U,∃fs,out g=some fs/\(∀f∈fs,f∈U)/\fs.length<=B):∀(n k:Nat) (af:eJ),U.length<n+k->k<=af.length->(af.map (·.1)).Nodup->(∀t∈af,t.1∈U)->UE out eU af->FE out af k ->
  ∃res,gM out n k af=some res/\(res.map (·.1)).Nodup/\(∀t∈res,t.1∈U)/\UE out eU res/\FE out res res.length/\∃more,res=af++more
 | n,k,af,u,hk,nd,sub,why,done=>by
  have v:af.length<=U.length:=by
   have:=gJ (af.map (·.1)) U nd λx w=>by
    grind
   rwa [aD]at this
  cases n with
  | zero=>lia
  | succ n =>
   cases ht:af[k]? with
   | none =>
    have e:af.length<=k:=by grind
    refine⟨af,?_,nd,sub,why,?_,[],by simp⟩
    ·show(match af[k]? with | none=>some af | some t=>_)=_
     rw[ht]
    ·grind
   | some t =>
    obtain⟨g,d⟩:=t;have i:=sub (g,d) (cK ht);obtain⟨fs,a,y,C⟩:=b g i;obtain⟨more,D,E⟩:=gK k fs af;have H:=(cS.mp ht).1;obtain⟨res,j,l,m,o,p,q,I⟩:=qL U B c b n (k+1) (dw af k fs) (by lia) (by grind) (uR _ _ _ nd) (λt r=>by
     grind) (Nz out eU why ht a) (JL out done ht a)
    refine⟨res,?_,l,m,o,p,more++q,by grind⟩
    show(match af[k]? with | none=>some af | some t=>(out t.1).bind λfs=>if af.length+fs.length<gF then gM out n (k+1) (dw af k fs)else none)=_
    rw[ht];show((out g).bind λfs=>if af.length+fs.length<gF then gM out n (k+1) (dw af k fs)else none)=_
    rw[a,dM,if_pos (by lia)]
    exact j
def ng(U:List (List bO))(B:Nat)(b:U.length+B<gF)(q:U.length<uQ)(c:∀g∈U,∃fs,out g=some fs/\(∀f∈fs,f∈U)/\fs.length<=B)(r:∀f∈eU,f∈U) :
  ∃res,gM out uQ 0 (dw [] (-1) eU)=some res/\(res.map (·.1)).Nodup/\(∀t∈res,t.1∈U)/\UE out eU res/\FE out res res.length/\∀f∈eU,f∈res.map (·.1):=by
 obtain⟨more,u,v⟩:=gK (-1) eU [];obtain⟨res,e,i,k,l,m,w,o⟩:=qL out eU U B b c uQ 0 (dw [] (-1) eU) (fj ‹_›) (dE _) (uR _ _ _ mR) (λt ht=>by
  grind) (JK out eU) (λj g d p=>absurd p (Ed _))
 exact⟨res,e,i,k,l,m,λf a=>by rw[o,bU];exact fI _ (qh _ _ _ f a)⟩
end
def X5(k:bO):BF (qe k)=some k:=by cases k<;>rfl
theorem NA:∀ks:List bO,c9 BF (ks.map qe)=some ks
 | []=>rfl
 | k::ks=>by simp only[aH,c9,X5,NA ks,dM,iw]
def sy(h:ks.length<1000):iW true (cP ks)=some ks:=by
 show(if(ks.map qe).length<1000 then c9 BF (ks.map qe)else none)=_
 rw[aD,if_pos h,NA]
def NB(k:bO):noRef (qe k)=true:=by cases k<;>rfl
theorem HC:∀ks:List bO,ah (ks.map qe)=true
 | []=>rfl
 | k::ks=>by simp[ah,NB,HC ks]
def SA(ks:List bO):noRef (cP ks)=true:=by simp[cP,noRef,HC]
def hS(hd:List aE)(af:eJ):List aE:=hd++[⟨.lst,af.map toldP⟩,⟨.gU true (af.map (·.1)),af.map λ_=>.bl true⟩]
section
variable {hd:List aE} {af:eJ}
def X6:(hS hd af)[hd.length]?=some ⟨.lst,af.map toldP⟩:=by simp[hS]
def ace:(hS hd af)[hd.length+1]?=some ⟨.gU true (af.map (·.1)),af.map λ_=>.bl true⟩:=by simp[hS]
def UH(h:j<hd.length):(hS hd af)[j]?=hd[j]?:=by unfold hS;rw[jN h]
def acf(a b c:aE):(hd++[a,b]).set (hd.length+1) c=hd++[a,c]:=by
 simp_all
def acg(a b c:aE):(hd++[a,b]).set hd.length c=hd++[c,b]:=by
 grind
end
def oH:Gx fD :=
 (dk (toB (op2 (ku true) (rd 4) (rd 1)))
  (er (R0 (aV (.bl true)) (rd 1) (rd 4))
  (gj (zD "list" (k0 (iB wa)) (rd 0) (aj (op2 eQ (rd 4) (kU .aq (aj (rd 3) (aV [])))) (aV [])))))
  (aV .nx))
def xE(b:f.length<1000)(k:af.length<4000000) :
  Ev oH ⟨[some (.ref hd.length),some (.ref (hd.length+1)),d,some (.int a),some (cP f)],hS hd af⟩ .nx ⟨[some (.ref hd.length),some (.ref (hd.length+1)),d,some (.int a),some (cP f)],hS hd (fG af a f)⟩:=by
 have i:cO (hS hd af) (.ref (hd.length+1))=some (.gU true (af.map (·.1)),af.map λ_=>.bl true):=by
  show((hS hd af)[hd.length+1]?).bind _=_;rw[ace];rfl
 have t:ku true (hS hd af) (cP f) (.ref (hd.length+1))=some (.bl (!Cq (af.map (·.1)) f)):=by
  unfold ku;rw[i];show(iW true (cP f)).map _=_;rw[sy b];rfl
 unfold oH fG;cases hm:Cq (af.map (·.1)) f with
 | true =>
  rw[hm]at t;rw[if_pos rfl];exact iF (bT (b2 rfl rfl t)) rfl
 | false =>
  rw[hm]at t;rw[if_neg bX];refine iT (bT (b2 rfl rfl t)) (sq (s1:=⟨[some (.ref hd.length),some (.ref (hd.length+1)),d,some (.int a),some (cP f)],hd++[⟨.lst,af.map toldP⟩,⟨.gU true (af.map (·.1)++[f]),(af.map λ_=>PV.bl true)++[.bl true]⟩]⟩) ?_ ?_)
  ·refine eB rfl (eB rfl (eB rfl ?_));show(BS (.ref (hd.length+1)) (cP f) (.bl true) _).map _=_;have c:zu (hS hd af) (.ref (hd.length+1))=some (hd.length+1,⟨.gU true (af.map (·.1)),af.map λ_=>.bl true⟩):=by
    show((hS hd af)[hd.length+1]?).bind _=_;rw[ace];rfl
   unfold BS;rw[c];show((iW true (cP f)).bind _).map _=_;rw[sy b];show Option.map _ (if(af.map (λt:List bO×Int=>t.1)).length<gF then _ else _)=_
   rw[if_pos (show(af.map (·.1)).length<gF by rw[aD];have:gF=4000000:=rfl;lia)]
   unfold oo;rw[show kY f (af.map (·.1))=false from hm,if_neg bX]
   show some (Rs.ok fD.nx,dB.mk _ ((hd++_).set (hd.length+1) _))=_;rw[acf]
  ·have j:∀h,eQ h (cP f) (.aq [.int a])=some (toldP (f,a)):=λh=>by
    have e:eQ h (cP f) (.aq [.int a])=sizeOk ((f.map qe).length+1) (toldP (f,a)):=rfl;rw[e,aD];exact if_pos (show f.length+1<=gF by have:gF=4000000:=rfl;lia)
   have g:(hd++[⟨.lst,af.map toldP⟩,⟨.gU true (af.map (·.1)++[f]),(af.map λ_=>PV.bl true)++[.bl true]⟩]:List aE)[hd.length]?=some ⟨.lst,af.map toldP⟩:=by simp
   refine dS (p:=.cf) (sx rfl g (cA (b2 rfl (tU (cA rfl rfl) (by simp)) (j _)) rfl) ((aC g (by rw[aD];lia)).trans ?_))
   rw[acg];simp[hS]
theorem xF:∀(fs:List (List bO)) (af:eJ) (o:Option PV),(∀f∈fs,f.length<1000)->af.length+fs.length<4000000 ->
  ∃b,dX (aX 4) oH (fs.map cP) ⟨[some (.ref hd.length),some (.ref (hd.length+1)),c,some (.int a),o],hS hd af⟩=some (.ok .nx,⟨[some (.ref hd.length),some (.ref (hd.length+1)),c,some (.int a),b],hS hd (dw af a fs)⟩)
 | [],af,o,_,_=>⟨o,rfl⟩
 | f::fs,af,o,hf,d=>by
  simp only[aR]at d;have i:=qf af a f;obtain⟨b,ih⟩:=xF fs (fG af a f) (some (cP f)) (λg e=>hf g (aM _ e)) (by lia)
  exact⟨b,fC rfl (xE (hf f aO) (by lia)) ih⟩
def Cr:Gx fD:=BN (gP (rd 2)) (aX 4) oH
def ach(c:CT)(ω:PV->Gx PV)(n:Nat):Gx fD :=
 (er (gj (bnd (aj (rd 2) (aj (rd 3) (aj (MR 1 n ω (cutE (op2 bf (rd 2) (rd 4)) (aV none) (oi (BE (aV (.int 1)))))) (aj (rd 4) (aV []))))) (bD 0 4 (c "tell_new"))))
  (dh (op2 Sv (rd 4) (aV (.int 1))) (aX 4)))
def X7(c:CT)(ω:PV->Gx PV)(n:Nat):Gx fD :=
 (er (dh (zc (aV [])) (aX 2))
  (er (dh (MN true) (aX 3))
  (er (gj (bnd (aj (rd 2) (aj (rd 3) (aj (rd 0) (aj (BE (aV (.int 1))) (aV []))))) (bD 0 4 (c "tell_new"))))
  (er (dh (aV (.int 0)) (aX 4))
  (er (j0 (toB (op2 Mh (rd 4) (gI gA (aj (rd 2) (aV []))))) (ach c ω n) WHL)
  (retS (rd 2)))))))
def Ct(a:∀f∈fs,f.length<1000)(b:af.length+fs.length<4000000) :
  dJ Cr 5 [.ref hd.length,.ref (hd.length+1),.lst (fs.map cP),.int c] (hS hd af)=some (.ok .cf,hS hd (dw af c fs)):=by
 obtain⟨d,e⟩:=xF fs af none a b;exact Sz (fS (sV rfl rfl) e)
theorem uS{all:List (List bO)}(e:hd[j]?=some ⟨.lst,all.map cP⟩):∀(fs:List (List bO)) (i b:Nat) (af:eJ) (o:Option PV),all.drop i=fs->(∀f∈fs,f.length<1000)->af.length+fs.length<4000000->fs.length<b ->
  ∃k,BM (aX 4) oH j b i ⟨[some (.ref hd.length),some (.ref (hd.length+1)),d,some (.int a),o],hS hd af⟩=some (.ok .nx,⟨[some (.ref hd.length),some (.ref (hd.length+1)),d,some (.int a),k],hS hd (dw af a fs)⟩)
 | fs,i,0,af,o,_,_,_,h=>by lia
 | fs,i,b+1,af,o,c,hf,q,l=>by
  have r:=(cS.mp e).1;have nx:Hf j (hS hd af) i=some ((all.map cP)[i]?):=by
   unfold Hf;have:cO (hS hd af) (.ref j)=some (.lst,all.map cP):=by
    show((hS hd af)[j]?).bind _=_;rw[UH r,e];rfl
   rw[this]
  have t:BM (aX 4) oH j (b+1) i ⟨[some (.ref hd.length),some (.ref (hd.length+1)),d,some (.int a),o],hS hd af⟩=(match Hf j (hS hd af) i with
   | some (some p)=>bnd (stp (aX 4 p)) (λ_=>bnd oH (xg (BM (aX 4) oH j b (i+1)))) ⟨[some (.ref hd.length),some (.ref (hd.length+1)),d,some (.int a),o],hS hd af⟩
   | some none=>some (.ok .nx,⟨[some (.ref hd.length),some (.ref (hd.length+1)),d,some (.int a),o],hS hd af⟩)
   | none=>none):=rfl
  rw[t,nx,cw];cases fs with
  | nil =>
   have:=List.drop_eq_nil_iff.mp c;rw[pj this];exact⟨o,rfl⟩
  | cons f fs =>
   have m:i<all.length:=by
    rcases Nat.lt_or_ge i all.length with h | h
    ·exact h
    ·rw[List.drop_eq_nil_of_le h]at c;cases c
   rw[sP m]at c;injection c with e1 u
   simp only[aR]at q l;have w:=qf af a f;obtain⟨k,ih⟩:=uS e fs (i+1) b (fG af a f) (some (cP f)) u (λg v=>hf g (aM _ v)) (by lia) (by lia)
   refine⟨k,?_⟩;rw[b7 m,e1];exact eB rfl (eB (xE (hf f aO) (by lia)) ih)
def JM(a:hd[j]?=some ⟨.lst,fs.map cP⟩)(b:∀f∈fs,f.length<1000)(c:af.length+fs.length<4000000) :
  dJ Cr 5 [.ref hd.length,.ref (hd.length+1),.ref j,.int d] (hS hd af)=some (.ok .cf,hS hd (dw af d fs)):=by
 obtain⟨i,e⟩:=uS a fs 0 gF af none rfl b c (by have:gF=4000000:=rfl;lia)
 have g:=(cS.mp a).1;refine Sz (eB (eB rfl ?_) (show abg (aX 4) oH (E3.cl j) _=_ from e))
 have:cO (hS hd af) (.ref j)=some (.lst,fs.map cP):=by
  show((hS hd af)[j]?).bind _=_;rw[UH g,a];rfl
 unfold MF;show Option.map _ (match cO (hS hd af) (.ref j)with | some (.lst,_)=>some (E3.cl j) | _=>none)=_
 rw[this];rfl
def X8(e:cO h (.ref n)=some (.lst,ps)):bf h (.ref n) (.int i)=L2.mX ps i:=by
 unfold bf;simp only[e];rfl
def NC(ps:List PV)(p:PV):lX (ps++[p]) none (some (-1))=ps:=by
 unfold lX;have e:HT.fE (ps++[p]).length (ps++[p]).length (some (-1))=ps.length:=by
  simp[HT.fE]
  lia
 rw[HT.Be,e,yB,Nat.sub_zero];simp
def cE'(h1:Ev fa s p s1)(a:Ev b s1 l s2)(c:Ev d s2 h s3)(e:Mp s3.h l h p=some q):Ev (cutE fa b d) s q s3:=eB h1 (eB a (eB c (by show(Mp s3.h l h p).map _=_;rw[e];rfl)))
section
variable {c:CT} {hd:List aE} {out:List bO->Option (List (List bO))} {ω:PV->Gx PV} {n:Nat} (hc:c "tell_new"=dJ Cr 5)
  (hω:∀g fs,out g=some fs->(∀f∈fs,f.length<1000)/\∀af ρ,ω (cP g) ⟨ρ,hS hd af⟩=some (.ok (.lst (fs.map cP)),⟨ρ,hS hd af⟩))
include hc hω
theorem Cu(p:Option PV):∀(N k a:Nat) (af res:eJ),gM out N k af=some res->N<=a->af.length<4000000 ->
  ∃k',j0 (toB (op2 Mh (rd 4) (gI gA (aj (rd 2) (aV []))))) (ach c ω n) a ⟨[p,some (.ref n),some (.ref hd.length),some (.ref (hd.length+1)),some (.int (k:Int))],hS hd af⟩=some (.ok .nx,⟨[p,some (.ref n),some (.ref hd.length),some (.ref (hd.length+1)),k'],hS hd res⟩)
 | 0,_,_,_,_,h,_,_=>by cases h
 | N+1,k,a,af,res,h,hf,m=>by
  obtain⟨a,rfl⟩:∃f,a=f+1:=⟨a-1,by lia⟩
  have dT:cO (hS hd af) (.ref hd.length)=some (.lst,af.map toldP):=by
   show((hS hd af)[hd.length]?).bind _=_;rw[X6];rfl
  have t:Ek (toB (op2 Mh (rd 4) (gI gA (aj (rd 2) (aV []))))) ⟨[p,some (.ref n),some (.ref hd.length),some (.ref (hd.length+1)),some (.int k)],hS hd af⟩ (decide (k<(af.length:Int))):=bT (b2 rfl (bV (cA rfl rfl) (by
   have e:lnO (hS hd af) (.ref hd.length)=some af.length:=by
    unfold lnO;rw[dT];show some (af.map toldP).length=_;rw[aD]
   show Option.map _ (Option.bind (lnO (hS hd af) (.ref hd.length)) _)=_;rw[e];rfl)) rfl)
  have h:(match af[k]? with | none=>some af | some t=>(out t.1).bind λfs=>if af.length+fs.length<gF then gM out N (k+1) (dw af k fs)else none)=some res:=h
  cases hk:af[k]? with
  | none =>
   rw[hk]at h;cases h;have i:=ph.mp hk;rw[iu (by lia)]at t
   exact⟨_,eB t rfl⟩
  | some tt =>
   obtain⟨g,d⟩:=tt;rw[hk]at h;obtain⟨fs,j,h⟩:=bt h;obtain⟨b,h⟩:=bP h;have b:af.length+fs.length<4000000:=b;obtain⟨l,hw⟩:=hω g fs j;have o:=(cS.mp hk).1;have q:=qg k fs af;obtain⟨k',ih⟩:=Cu p N (k+1) a (dw af k fs) res h (by lia) (jf ‹_› ‹_›)
   refine⟨k',?_⟩;rw[dq (by lia)]at t
   have ct:Mp (hS hd af) none (some (-1)) (toldP (g,d))=some (cP g):=by
    show some (PV.aq (lX (g.map qe++[.int d]) none (some (-1))))=_;rw[NC];rfl
   refine eB t ?_;refine eB (sq (dS (clG (cA rfl (cA rfl (cA (eB rfl (eB (show Option.map _ (if n=n then some ()else none)=_ by rw[if_pos rfl];rfl) (eB (cE' (b2 rfl rfl (by
    rw[X8 dT];exact atI_nat (by grind))) rfl rfl ct) (hw af _)))) (cA rfl rfl)))) rfl (by
    have:(hS hd af).isEmpty=false:=by simp[hS]
    rw[this];rfl) (by rw[hc];exact Ct l b))) (aS (b2 rfl rfl rfl) rfl)) ih
def SD(hp:p=.lst (fk.map cP)\/∃j,p=.ref j/\hd[j]?=some ⟨.lst,fk.map cP⟩)(hk:∀f∈fk,f.length<1000)(l:fk.length<4000000)(a:gM out uQ 0 (dw [] (-1) fk)=some res) :
  dJ (X7 c ω n) 5 [p,.ref n] hd=some (.ok (.ref hd.length),hS hd res):=by
 have b:=qg (-1) fk [];simp only[tF,dZ]at b;obtain⟨m,e⟩:=Cu hc hω (some p) uQ 0 WHL (dw [] (-1) fk) res a (by decide) (jf ‹_› ‹_›)
 have d:hS hd []=(hd++[⟨.lst,[]⟩])++[⟨.gU true [],[]⟩]:=by simp[hS]
 have g:Ev (dh (zc (aV [])) (aX 2)) ⟨[some p,some (.ref n),none,none,none],hd⟩ .nx ⟨[some p,some (.ref n),some (.ref hd.length),none,none],hd++[⟨.lst,[]⟩]⟩:=rfl;have run:c "tell_new" [.ref hd.length,.ref (hd.length+1),p,.int (-1)] (hS hd [])=some (.ok .cf,hS hd (dw [] (-1) fk)):=by
  rw[hc];rcases hp with rfl | ⟨j,rfl,i⟩
  ·exact Ct hk (by grind)
  ·exact JM i hk (by grind)
 have k:Ev (gj (bnd (aj (rd 2) (aj (rd 3) (aj (rd 0) (aj (BE (aV (.int 1))) (aV []))))) (bD 0 4 (c "tell_new")))) ⟨[some p,some (.ref n),some (.ref hd.length),some (.ref (hd.length+1)),none],hS hd []⟩ .nx ⟨[some p,some (.ref n),some (.ref hd.length),some (.ref (hd.length+1)),none],hS hd (dw [] (-1) fk)⟩ :=
  dS (clG (s1:=⟨[some p,some (.ref n),some (.ref hd.length),some (.ref (hd.length+1)),none],hS hd []⟩) (cA rfl (cA rfl (cA rfl (cA rfl rfl)))) rfl (by
   have:(hS hd []).isEmpty=false:=by simp[hS]
   rw[this];rfl) run)
 exact iJ (sq g (sq (by
  rw[d,<-show(hd++[(⟨.lst,[]⟩:aE)]).length=hd.length+1 by simp]
  rfl) (sq k (sq rfl (sq e (rS rfl))))))
end
end L2.U
namespace b9
open PySem L2 L2.U
abbrev oI:Stmt:=top 16
abbrev aci:Stmt:=top 92
abbrev kI (n : Int) : Gx PV := aV (.int n)
abbrev kS (s : Str) : Gx PV := aV (.str s)
abbrev Q0 := aj (rd 1) (aV [])
abbrev Q2 := eP (aX 2) (eP (aX 3) uz)
abbrev Q4 := op2 bf (rd 1) (kI 0)
abbrev Q5 := BV "listed" (rd 0)
abbrev Q6 := eP (aX 4) (eP (aX 5) (eP (aX 6) (eP (aX 7) (eP (aX 8) uz))))
abbrev Q7 := op2 bf (rd 1) (kI 1)
abbrev Q8 := aj (kS "sole") (aV [])
abbrev Q9 := op2 bf (rd 1) (rd 2)
abbrev Qa := aj (rd 2) (aV [])
abbrev Qb := eP (aX 4) (eP (aX 5) uz)
abbrev Qc := dk (toB (op2 jG (rd 2) (op2 bf (rd 4) (kI 1)))) (dk (eH (rd 3)) (aV true) (toB (op2 jG (rd 5) (kS "lend")))) (aV false)
abbrev Qd := op2 bf (rd 2) (kI 2)
abbrev Qe := orG (rd 6) (kU .lst (aj (aV (.aq [(.str "rest"),(.str ""),(.bl false),(.int 0),(.int 0),(.str "")])) (aV [])))
abbrev Qf := dk (eH (op2 bf (rd 4) (kI 3))) (toB (op2 jG (op2 bf (rd 4) (kI 2)) (op2 bf (rd 4) (kI 6)))) (aV false)
abbrev Qg := kx (aX 1) (kU .aq (aj (op2 bf (rd 3) (kI 6)) (aj (rd 1) (aj (rd 2) (aj (rd 4) (aV []))))))
abbrev Qh := cY false [none,none] (gP (op2 bf (rd 1) (op2 bf (rd 0) (kI 0)))) (kx (aX 1) (kU .aq Q0))
abbrev Qi := toB (op2 jG (op2 bf (rd 9) (kI 1)) (kS "take"))
abbrev Qj := aj (rd 0) Q0
abbrev Qk := jZ 2 (eP (aX 1) (eP (aX 2) uz))
abbrev Ql := cY false [none,none,some 1] (gP (rd 0)) (lY (aX 1) (toB (op2 jG Q4 Qd)) (rd 1))
abbrev Qn := op2 bf (rd 0) (rd 1)
abbrev Qo := op2 bf (rd 9) (kI 6)
abbrev Qp := op2 bf (rd 9) (kI 0)
abbrev Qq := dk (toB (op2 jG (op2 bf (rd 2) (kI 0)) (kS "strip"))) (eH (rd 3)) (aV false)
abbrev Qr := toB (op2 (ku true) (op2 bf (rd 4) (kI 1)) (kU .aq (aj (kS "lend") Q8)))
abbrev Qs := toB (op2 (ku false) (op2 bf Q7 (kI 0)) (kU .aq (aj (kS "lent") Q8)))
abbrev Qt := op2 bf (rd 5) (kI 0)
abbrev Q3 := toB (op2 jG (op2 bf (op2 bf (rd 2) (rd 10)) (kI 0)) (op2 bf (op2 bf (rd 2) Qt) (kI 0)))
abbrev Qu := aj (rd 0) (aV [])
abbrev Qv := op2 bf (rd 2) (kI 1)
abbrev Qw := aj (rd 3) (aV [])
abbrev Qx := op2 bf (rd 3) (kI 1)
abbrev Qy := jZ 3 (eP (aX 4) (eP (aX 5) (eP (aX 6) uz)))
abbrev Qz := aj (rd 1) (aj (op2 bf (op2 bf Q9 (kI 4)) Qp) (aV []))
abbrev QA := dk (toB (op2 jG (rd 2) (rd 4))) (eH (rd 3)) (aV false)
abbrev QB := dh (cutE (rd 0) (aV none) (oi (kI 5))) (jZ 5 Q6)
abbrev QC := toB (op2 Zi (rd 7) (kI 0))
abbrev QD := toB (op2 Mh (op2 eQ (rd 4) (kI 1)) (gI gA Qa))
abbrev QE := jZ 3 (eP (aX 1) Q2)
abbrev QF := aj (kU .aq (aj (kI 0) (aV []))) (aV [])
abbrev QG := toB (op2 jG Q7 (kS ""))
abbrev QH := toB (op2 jG (op2 bf (rd 1) (kI 6)) (kS ""))
abbrev QI := eH (op2 bf (op2 bf (rd 3) (rd 7)) (kI 3))
abbrev QJ := aj (rd 6) (aV [])
abbrev QK := op2 bf (rd 2) (kI 6)
abbrev Qm := aj (rd 0) (aj (op2 bf (rd 1) (kI 3)) (aj QK (aV [])))
abbrev QL := nY (eH (Sj Qp))
abbrev QM := BV "follow" (rd 0)
abbrev QN := op2 WK (rd 6) (op2 bf (rd 9) (kI 4))
abbrev Q1 := dk (toB (op2 (ku false) (op2 bf (rd 9) (kI 1)) (kU .aq (aj (kS "lend") Q8)))) (dk (eH (op2 bf (rd 9) (kI 3))) (dk (toB (op2 jG (op2 bf (rd 9) (kI 2)) (rd 5))) (toB (chain leO Mh (kI 0) QN (op2 bf (rd 9) (kI 5)))) (aV false)) (aV false)) (aV false)
abbrev QO := aj (op2 bf (rd 11) (kI 1)) (aV [])
abbrev QP := dh (op2 bf (rd 3) (rd 4)) (aX 9)
abbrev QQ := jZ 2 Q2
abbrev QR := aj (rd 7) (aj (rd 8) (aV []))
abbrev QS := gI gA (aj (rd 7) (aV []))
abbrev QT := aj (rd 0) (aj Q7 (aV []))
abbrev QU := aj (rd 2) Q0
abbrev QV := dh (op2 bf Q5 Q4) (aX 2)
def X9:List (Str×Nat):=txt.defs.map λd=>(d.1,(params d.2).length)
def SE:List Str:=["Course"]
abbrev Rn(x:Str)(F:CT->Gx fD)(n:Nat):Prop:=∀k,run txt (k+1) x=dJ (F (run txt k)) n
open Lean Meta in
dsimproc_decl pqF (Str.mk _):=λe=>do
 let .app _ (.app _ l):=e | return .continue
 let some l <-getListLit? l | return .continue
 return .done (mkApp (mkConst ``Str.ofString) (toExpr (String.ofList (l.toList.map λx=>Char.ofNat (x.nat?.getD 0)))))
open Lean in
dsimproc_decl pqI (Int.ofNat _):=λe=>do
 let .app _ n:=e | return .continue
 let some n:=n.nat? | return .continue
 return .done (toExpr (n:Int))
def fY(x:Str)(i n k:Nat){f:CT->Gx fD}(h:∀k,run txt (k+1) x=dJ (Sy txt x (top i) (run txt k)) n:=by intro _;kernel_rfl)(e:∀c,Sy txt x (top i) c=f c:=by intro c;conv=>(lhs;reduce;simp only[pqF,pqI])):run txt (k+1) x=dJ (f (run txt k)) n:=by rw[h,e]
noncomputable def lbP(s:List Stmt):List Nat->List Stmt
 | []=>s
 | i::r=>lbP (match s[i]? with | some (.For _ _ b _ _) | some (.If _ b _ _)=>b | _=>[]) r
def qM(x:Str)(i:Nat)(p:List Nat)(c:CT):Gx fD:=mx Fw (XW txt x (top i) (XU txt) (Nt txt c) (XY txt x c) none c) (lbP (dD (top i)) p)
abbrev nz(a:Gx fD){f:Gx fD}(_:a=f:=by conv=>(lhs;reduce;simp only[pqF,pqI])):Gx fD:=f
section
seal er E7 op2 bf rd bnd aj aV bD cY gP kx lY aX gj zD wb dk toB KA retS kU dh zc BN gI Ja cJ nY chain leO Mh gA Sv Jd cutE oi ku jG eQ jZ eP uz eH MN BE j0 R0 k0 iB wa M6 BU MO orG He xm Jm Ht Jy lrg IZ Sj isV Zj Jc Xh Nt BV wc uG WK Zi gX v9 Jb jF Rm RH Mt Wx B8 MR dJ XX
def Cv(c:CT):Gx fD :=
 (er (E7 SE txt.flds "function" Q9 (rd 0))
  (er (E7 SE txt.flds "listed" (bnd (aj (rd 1) Qa) (bD 0 2 (c "acts"))) (rd 0))
  (er (E7 SE txt.flds "follow" (bnd (aj (rd 1) Qa) (bD 0 2 (c "nexts"))) (rd 0))
  (E7 SE txt.flds "sources" (cY false [none,none,some 1] (gP (op2 bf Q9 (kI 4))) (kx (aX 1) (bnd QU (bD 0 2 (c "source_holders"))))) (rd 0)))))
theorem JN(c:CT):Nt txt c "Course"=dJ (Cv c) 3:=by kernel_rfl
def FF(k:Nat):=fY "leaves" 5 3 k
def uT(k:Nat):=fY "check_part" 6 2 k
noncomputable def ND(c:CT):=nz (qM "part" 7 [1] c)
def NF(k:Nat):=fY "part" 7 4 k
noncomputable def JO(c:CT):=nz (qM "first" 8 [2] c)
def JP(k:Nat):=fY "first" 8 5 k
def wA(k:Nat):=fY "is_copied" 9 1 k
noncomputable def Cw(c:CT):=nz (qM "kind_of" 12 [0] c)
def Cy(k:Nat):=fY "kind_of" 12 4 k
def my(k:Nat):=fY "is_holder" 13 1 k
def zZ(k:Nat):=fY "shape_of" 14 1 k
def Aa(k:Nat):=fY "tell_new" 17 5 k
noncomputable def qN(c:CT):=nz (Sy txt "row_nexts" (top 29) c)
theorem mz:Rn "row_nexts" qN 3:=λ_=>by kernel_rfl
noncomputable def uU(c:CT):Gx fD :=
 (er (dh (BU X9 c (MO (λk=>(List.lookup k jU).map .fn) Qt) (aj (rd 2) (aj (rd 5) (aV [])))) (aX 6))
  (gj (zD "list" wb (rd 3) (aj (cY false [none,none,some 4] (gP Qe) (kx (aX 1) (op2 eQ (kU .aq Qa) (rd 1)))) (aV [])))))
noncomputable def Yb(c:CT):Gx fD :=
 (er (dh Qn (aX 2))
  (er (dh (zc (aV [])) (aX 3))
  (er (BN (He (xm (op2 bf (rd 2) (kI 4)))) (jZ 2 Qb) (uU c))
  (retS (rd 3)))))
theorem NG:Rn "acts" Yb 7:=λ_=>by kernel_rfl
noncomputable def xG(c:CT):=nz (qM "nexts" 31 [2] c)
noncomputable def qi(c:CT):=nz (qM "nexts" 31 [4] c)
def JQ(k:Nat):=fY "nexts" 31 7 k
def qO(k:Nat):=fY "come_to" 32 2 k
noncomputable def FG(c:CT):Gx fD :=
 (retS (Jy (λa n=>dJ (XX txt oI c a n) 5) (kU .lst QF) Qh [some 0]))
theorem Ab:Rn "arrivals" FG 1:=λ_=>by kernel_rfl
def Cz(k:Nat):=fY "touched" 34 1 k
def CB(k:Nat):=fY "touches" 35 3 k
def uV(k:Nat):=fY "is_lending" 36 1 k
def uW(k:Nat):=fY "is_of_call" 37 1 k
def JR(k:Nat):=fY "touch" 38 6 k
def rL(k:Nat):=fY "touch_whole" 39 4 k
def CD(k:Nat):=fY "at_acts" 40 2 k
def qj(k:Nat):=fY "operand_acts" 41 2 k
noncomputable def mB(c:CT):=nz (Sy txt "target_acts" (top 42) c)
theorem rM:Rn "target_acts" mB 2:=λ_=>by kernel_rfl
def Ac(k:Nat):=fY "put_acts" 43 2 k
def Ad(k:Nat):=fY "set_acts" 44 2 k
def wB(k:Nat):=fY "copy_acts" 45 2 k
def wC(k:Nat):=fY "move_acts" 46 2 k
def wD(k:Nat):=fY "lend_acts" 48 2 k
def wF(k:Nat):=fY "call_acts" 49 3 k
def CF(k:Nat):=fY "arg_act" 50 4 k
def wG(k:Nat):=fY "owner_act" 51 2 k
def CG(k:Nat):=fY "if_acts" 52 2 k
def CH(k:Nat):=fY "go_acts" 53 2 k
def Ae(k:Nat):=fY "say_acts" 54 2 k
def mD(k:Nat):=fY "give_acts" 55 2 k
noncomputable def oJ(c:CT):=nz (qM "held" 58 [2] c)
noncomputable def Yc(c:CT):Gx fD :=
 (er (dh (Xh "Course" 3 (Nt txt c "Course") Qj) (aX 4))
  (er (dh (bnd (aj Qn (aV [])) (bD 1 1 (c "held_at_first"))) (aX 2))
  (er (BN (gP (bnd Qj (bD 0 2 (c "come_to")))) (aX 3) (oJ c))
  (retS (Jy (λa n=>dJ (XX txt oI c a n) 5) (rd 2) (bnd (aj (rd 1) Qu) (bD 0 2 (c "held_behind"))) [some 4])))))
theorem NH:Rn "held" Yc 5:=λ_=>by kernel_rfl
noncomputable def jL(c:CT):=nz (Sy txt "source_holders" (top 60) c)
theorem nh:Rn "source_holders" jL 3:=λ_=>by kernel_rfl
def l7(k:Nat):=fY "count_leaves_of" 61 2 k
noncomputable def i9(c:CT):=nz (qM "held_at_first" 62 [1] c)
def jc(k:Nat):=fY "held_at_first" 62 5 k
noncomputable def uX(c:CT):=nz (qM "newly_lent" 63 [3] c)
def ll(k:Nat):=fY "newly_lent" 63 5 k
def lq(k:Nat):=fY "is_through" 64 3 k
noncomputable def rN(c:CT):=nz (qM "held_behind" 65 [5] c)
def km(k:Nat):=fY "held_behind" 65 7 k
def mE(k:Nat):=fY "passed_on" 66 3 k
def qk(k:Nat):=fY "leaves_given" 67 3 k
def Af(k:Nat):=fY "_law_cell_at" 69 2 k
def FH(k:Nat):=fY "_law_mixed" 70 4 k
noncomputable def uY(c:CT):=nz (qM "_law_names" 71 [5,1] c)
noncomputable def uZ(c:CT):=nz (qM "_law_names" 71 [5] c)
def FI(k:Nat):=fY "_law_names" 71 10 k
def FJ(k:Nat):=fY "_law_shape" 72 4 k
noncomputable def qP(c:CT):=nz (qM "_law_leaves" 73 [2] c)
def qQ(k:Nat):=fY "_law_leaves" 73 3 k
noncomputable def FK(c:CT):=nz (qM "_law_parts" 74 [1,0] c)
def u0(k:Nat):=fY "_law_parts" 74 4 k
noncomputable def JS(c:CT):=nz (qM "_law_lets" 75 [3] c)
def JT(k:Nat):=fY "_law_lets" 75 8 k
noncomputable def FL(c:CT):=nz (qM "_law_spots" 76 [1,3] c)
noncomputable def FN(c:CT):=nz (qM "_law_spots" 76 [1] c)
def FO(k:Nat):=fY "_law_spots" 76 8 k
noncomputable def oK(c:CT):=nz (qM "_law_numbers" 77 [1] c)
def Ag(k:Nat):=fY "_law_numbers" 77 7 k
def Ah(k:Nat):=fY "_law_operand" 78 3 k
def Ai(k:Nat):=fY "_law_carried" 79 9 k
def Aj(k:Nat):=fY "_law_lending" 80 9 k
def JU(k:Nat):=fY "_law_call" 81 10 k
def u3(k:Nat):=fY "_law_small_row" 82 6 k
def NI(k:Nat):=fY "_law_row" 83 14 k
noncomputable def u4(c:CT):=nz (Sy txt "_law_program" (top 84) c)
theorem Ak:Rn "_law_program" u4 24:=λ_=>by kernel_rfl
def FP(k:Nat):=fY "_law_whole" 85 1 k
def Al(k:Nat):=fY "_law_sources" 86 3 k
def Am(k:Nat):=fY "_law_is_fact" 87 1 k
noncomputable def FQ(c:CT):=nz (qM "_law_begun" 88 [0,0,0] c)
noncomputable def u5(c:CT):=nz (qM "_law_begun" 88 [0] c)
def FU(k:Nat):=fY "_law_begun" 88 5 k
noncomputable def NJ(c:CT):=nz (qM "_law_own" 89 [2,0] c)
noncomputable def NK(c:CT):=nz (qM "_law_own" 89 [2] c)
def NL(k:Nat):=fY "_law_own" 89 7 k
def HE(k:Nat):=fY "_law_on" 90 12 k
noncomputable def u6(c:CT):=nz (qM "_law_right" 91 [5] c)
noncomputable def FV(c:CT):=nz (qM "_law_right" 91 [8] c)
noncomputable def FW(c:CT):=nz (qM "_law_right" 91 [9,1,0] c)
noncomputable def FX(c:CT):=nz (qM "_law_right" 91 [9,1] c)
noncomputable def FY(c:CT):=nz (qM "_law_right" 91 [9] c)
def FZ(k:Nat):=fY "_law_right" 91 11 k
def SF(k:Nat):=fY "law" 92 3 k
noncomputable def CI(c:CT)(ω:PV->Gx PV)(n:Nat):Gx fD :=
 (er (gj (bnd (aj (rd 2) (aj (rd 3) (aj (MR 1 n ω (cutE (op2 bf (rd 2) (rd 4)) (aV none) (oi (BE (kI 1))))) (aj (rd 4) (aV []))))) (bD 0 4 (c "tell_new"))))
  (dh (op2 Sv (rd 4) (kI 1)) (aX 4)))
noncomputable def JV(c:CT)(ω:PV->Gx PV)(n:Nat):Gx fD :=
 (er (dh (zc (aV [])) (aX 2))
  (er (dh (MN true) (aX 3))
  (er (gj (bnd (aj (rd 2) (aj (rd 3) (aj (rd 0) (aj (BE (kI 1)) (aV []))))) (bD 0 4 (c "tell_new"))))
  (er (dh (kI 0) (aX 4))
  (er (j0 (toB (op2 Mh (rd 4) (gI gA Qa))) (CI c ω n) WHL)
  (retS (rd 2)))))))
theorem F6(c:CT)(ω:PV->Gx PV)(n:Nat):XX txt oI c ω n=JV c ω n:=by kernel_rfl
end
abbrev S0(l:List (Option PV)):dB:=⟨l,[]⟩
section
variable {s s1:dB} {ts:Gx (List PV)} {as:List PV} {q:PV}
def cb(a:Ev ts s as s1)(b:as.length=n)(c:(s1.h.isEmpty || ah as)=true)(hc:Gives (g as []) q):Ev (bnd ts (bD 0 n g)) s q s1:=let ⟨_,_,d,e⟩:=hc;clV a b c d e
def gV(e:f ⟨gY n as,[]⟩=some (.ok (.rt p),⟨KH,h'⟩))(hp:noRef p=true):Gives (dJ f n as []) p:=⟨p,h',iJ e,zY hp⟩
def gN(e:f ⟨gY n as,[]⟩=some (.ok .nx,⟨KH,h'⟩)):Gives (dJ f n as []) .cf:=⟨.cf,h',Sz e,zY rfl⟩
end
def dz(h:List aE)(a b:Str):jG h (.str a) (.str b)=some (.bl (a==b)):=rfl
def Zq:Sh->Str
 | .num=>"num"
 | .own=>"own"
 | .bN _=>"strip"
 | .bH _=>"rec"
def qR(h:List aE)(s:Sh):bf h (enc s) (.int 0)=some (.str (Zq s)):=by cases s<;>rfl
inductive Kn where
 | ow (s:Sh) | ho (aka:Bool) (s:Sh)
noncomputable def hw(b:Bool):Str:=if b then "sole" else "lent"
def encK:Kn->PV
 | .ow s=>enc s
 | .ho b s=>.aq [.str (hw b),enc s]
def held:Kn->Sh
 | .ow s=>s
 | .ho _ s=>s
noncomputable def iS:Kn->Bool
 | .ow _=>false
 | .ho _ _=>true
def sE(d:Kn):noRef (encK d)=true:=by
 cases d with
 | ow s=>exact dH s
 | ho b s=>simp[encK,noRef,ah,dH]
def SG(d:Kn):((bf [] (encK d) (.int 0)).bind λw=>ku false [] w (.aq [.str "lent",.str "sole"]))=some (.bl (iS d)):=by
 cases d with
 | ow s=>cases s<;>kernel_rfl
 | ho b s=>cases b<;>kernel_rfl
def eW(k:Nat)(d:Kn):Gives (run txt (k+1) "is_holder" [encK d] []) (.bl (iS d)):=by
 rw[my];obtain⟨w,a,b⟩:=sR.mp (SG d);exact gV (rS (b2 (b2 rfl rfl a) rfl b)) rfl
def u7(k:Nat)(d:Kn):Gives (run txt (k+2) "shape_of" [encK d] []) (enc (held d)):=by
 rw[zZ];have h:=eW k d;refine gV (KH:=[some (encK d)]) (h':=[]) (rS (eI (tR (cb (cA rfl rfl) rfl rfl h) rfl) ?_)) (dH _);cases d with
 | ow s=>rfl
 | ho b s=>rfl
abbrev Rk:=Str×Kn
def bj(r:Rk):PV:=.aq [.str r.1,encK r.2]
def mF:List Rk->Str->Option Kn
 | [],_=>none
 | r::l,x=>if r.1=x then some r.2 else mF l x
theorem lN:∀(l:List Rk) (r:Rk),(l.map (·.1)).Nodup->r∈l->mF l r.1=some r.2
 | s::l,r,a,h=>by
  rw[aH,jj]at a;rcases aW.mp h with rfl | h
  ·rw[mF,if_pos rfl]
  ·rw[mF,if_neg,lN l r a.2 h];intro e;exact a.1 (az.mpr ⟨r,h,e.symm⟩)
theorem xJ(c:CT)(f:Option PV)(x:Str):∀(R:List Rk) (a b:Option PV) (d:Kn),mF R x=some d->∃g,dX QQ (Cw c) (R.map bj) (S0 [f,some (.str x),a,b])=some (.ok (.rt (encK d)),S0 g)
 | [],_,_,_,h=>by cases h
 | r::R,a,b,d,h=>by
  have t:jZ 2 Q2 (bj r) (S0 [f,some (.str x),a,b])=some (S0 [f,some (.str x),some (.str r.1),some (encK r.2)]):=rfl;have e:Ek (toB (op2 jG (rd 2) (rd 1))) (S0 [f,some (.str x),some (.str r.1),some (encK r.2)]) (r.1==x):=bT (b2 rfl rfl (dz _ _ _));unfold mF at h;by_cases i:r.1=x
  ·rw[if_pos i]at h;cases h;rw[show(r.1==x)=true by grind]at e
   exact⟨_,fR t (iT e (rS rfl))⟩
  ·rw[if_neg i]at h;obtain⟨g,ih⟩:=xJ c f x R (some (.str r.1)) (some (encK r.2)) d h;rw[show(r.1==x)=false by grind]at e
   exact⟨g,fC t (iF e rfl) ih⟩
def DK(nm res a:PV)(R1 R2:List Rk):PV:=.aq [nm,.aq (R1.map bj),res,.aq (R2.map bj),a]
def aT(b:ps.length+a.length<=4000000):eQ h (.aq ps) (.aq a)=some (.aq (ps++a)):=if_pos (b)
def JW(k:Nat)(n res a:PV)(R1 R2:List Rk)(x:Str)(d:Kn)(hd:mF (R1++R2) x=some d)(h:R1.length+R2.length<=1000):Gives (run txt (k+1) "kind_of" [DK n res a R1 R2,.str x] []) (encK d):=by
 rw[Cy];obtain⟨c,e⟩:=xJ (run txt k) (some (DK n res a R1 R2)) x (R1++R2) none none d hd;have b:eQ [] (.aq (R1.map bj)) (.aq (R2.map bj))=some (.aq ((R1++R2).map bj)):=by
  rw[bU];exact aT (by simp;lia)
 exact gV (o9 (fS (sV (b2 (b2 rfl rfl rfl) (b2 rfl rfl rfl) b) rfl) e)) (sE d)
def LA:eS (run txt):=⟨λk=>FF k⟩
def HF(a:0<=i)(b:ps[i.toNat]?=some y):L2.mX (cj ps) i=some (enc y):=by
 have:=atI_nat (xs:=cj ps) (by rw[lg,cw,b];rfl)
 rw[mM a]at this;exact this
def u9(h:UD s i=some x):∃ps,s=.bH ps/\0<=i/\ps[i.toNat]?=some x.1/\x.2=((il (ps.take i.toNat)).length:Int):=by
 cases s with
 | bH ps =>
  simp only[UD]at h;by_cases a:0<=i
  ·grind
  ·grind
 | num=>simp[UD]at h
 | own=>simp[UD]at h
 | bN n=>simp[UD]at h
def Yd(h:y∈ps):dp y<=su ps:=by
 induction ps with
 | nil=>cases h
 | cons z zs ih =>
  simp only[su];rcases aW.mp h with rfl | hm
  ·lia
  ·grind
mutual
theorem NO:∀(s:Sh),∀r∈tab s,r.2.2.1=sz r.2.2.2
 | .num,r,h=>by simp[tab]at h;subst h;simp[sz,lv]
 | .own,r,h=>by simp[tab]at h;subst h;simp[sz,lv]
 | .bN n,r,h=>by simp[tab]at h;subst h;simp[sz,lv]
 | .bH ps,r,h=>by
  simp only[tab,aW]at h;rcases h with rfl | h
  ·simp[sz,lv]
  ·exact HG ps 0 0 r h
theorem HG:∀l k a,∀r∈tabs k a l,r.2.2.1=sz r.2.2.2
 | [],_,_,r,h=>by simp[tabs]at h
 | s::l,k,a,r,h=>by
  simp only[tabs,bB,az]at h;rcases h with⟨b,h0,rfl⟩ | h
  ·exact NO s b h0
  ·exact HG l _ _ r h
end
mutual
theorem An:∀(s:Sh),∀r∈tab s,dp r.2.2.2<=dp s/\(lv r.2.2.2).length<=(lv s).length
 | .num,r,h=>by simp[tab]at h;subst h;simp
 | .own,r,h=>by simp[tab]at h;subst h;simp
 | .bN n,r,h=>by simp[tab]at h;subst h;simp
 | .bH ps,r,h=>by
  simp only[tab,aW]at h;rcases h with rfl | h
  ·simp
  ·have:=HH ps 0 0 r h;simp only[dp,lv]
   lia
theorem HH:∀l k a,∀r∈tabs k a l,dp r.2.2.2<=su l/\(lv r.2.2.2).length<=(il l).length
 | [],_,_,r,h=>by simp[tabs]at h
 | s::l,k,a,r,h=>by
  simp only[tabs,bB,az]at h;simp only[su,il,bK];rcases h with⟨b,h0,rfl⟩ | h
  ·have:=An s b h0;simp only[qK]
   lia
  ·have:=HH l _ _ r h
   lia
end
section
variable {s s1 s2 s3:dB} {fa fb fc:Gx PV} {x y z r:PV}
def eCh(b:Ev fa s x s1)(c:Ev fb s1 y s2)(h1:g s2.h x y=some (.bl true))(hc:Ev fc s2 z s3)(d:a s3.h y z=some r):Ev (chain g a fa fb fc) s r s3 :=
 eB b (eB c (eB (by show((g s2.h x y).bind xc).map _=_;rw[h1];rfl) (by rw[if_pos rfl];exact eB hc (by show(a s3.h y z).map _=_;rw[d];rfl))))
end
def le_int(h:List aE)(i j:Int):leO h (.int i) (.int j)=some (.bl (decide (i<=j))):=rfl
def lt_int(h:List aE)(i j:Int):Mh h (.int i) (.int j)=some (.bl (decide (i<j))):=rfl
def HI(k:Nat)(a:UD s i=some x):Gives (run txt (k+1) "check_part" [enc s,.int i] []) .cf:=by
 obtain⟨ps,rfl,c,d,_⟩:=u9 a;rw[uT];have e:=(cS.mp d).1;exact gN (sq (iF (s1:=S0 [some (enc (.bH ps)),some (.int i)]) (bT (by kernel_rfl)) rfl) (iF (nB (b:=true) (bT (eCh rfl rfl (by rw[le_int,dq c]) (bV (cA (b2 rfl rfl rfl) rfl) rfl) (by rw[lt_int,dq (by rw[fF];lia)])))) rfl))
theorem xK(k:Nat)(A P:Option PV):∀(p:List Int) (s:Sh) (a:Int) (o:Option PV) (b:Sh) (c:Int),walk s a p=some (b,c)->∃d,dX (aX 3) (ND (run txt (k+1))) (p.map .int) (S0 [A,P,some (enc s),o])=some (.ok .nx,S0 [A,P,some (enc b),d])
 | [],s,a,o,b,c,h=>by
  simp[walk]at h;obtain⟨rfl,rfl⟩:=h;exact⟨o,rfl⟩
 | i::p,s,a,o,b,c,h=>by
  obtain⟨x,e,hw⟩:=sR.mp (h);have hc:=HI k e;obtain⟨ps,rfl,f,g,_⟩:=u9 e;obtain⟨d,q⟩:=xK k A P p x.1 (a+x.2) (some (.int i)) b c hw;have j:=HF f g;exact⟨d,fC rfl (sq (dS (cb (cA rfl (cA rfl rfl)) rfl rfl hc)) (aS (b2 (b2 rfl rfl rfl) rfl j) rfl)) q⟩
def Ye(k:Nat)(s:Sh)(p:List Int)(x:Sh×Int)(h:walk s 0 p=some x):Gives (run txt (k+2) "part" [enc s,.aq (p.map .int)] []) (enc x.1):=by
 rw[NF];obtain⟨a,q⟩:=xK k (some (enc s)) (some (.aq (p.map .int))) p s 0 none x.1 x.2 h;exact gV (sq (aS rfl rfl) (sq (fS rfl q) (rS rfl))) (dH _)
def SH(l:List Sh):(l.map λs=>((lv s).length:Int)).sum=((il l).length:Int):=by
 induction l with
 | nil=>simp[il]
 | cons s l ih=>simp[il,ih]
theorem ql:∀a:List Int,mn (a.map .int)=some a
 | []=>rfl
 | n::r=>by
  have e:c9 oh (r.map PV.int)=some r:=ql r;simp only[mn,aH,c9,oh,dM,e,iw]
def JX(h:List aE)(a:List Int):Jd h [.lst (a.map .int)]=some (.int a.sum):=by
 show(mn _).map _=_;rw[ql];rfl
def Yg(ps:List PV)(q:Nat):lX ps none (some (q:Int))=ps.take q:=by
 unfold lX;rw[HT.yP,HT.Be,yB,Nat.sub_zero];by_cases h:q<=ps.length
 ·grind
 ·grind
def cM{l:List α}(d:Ev fi s (.sq (l.map e)) s1)(f:l.length<=4000000)(c:∀a∈l,bd (bJ link s1.ρ) (e a) s1.h=some (some (G a),s1.h)):Ev (cY false link fi bd) s (.lst (l.map G)) s1:=eB d (by
 have:∀l:List α,(∀a∈l,bd (bJ link s1.ρ) (e a) s1.h=some (some (G a),s1.h))->fP (bd (bJ link s1.ρ)) (l.map e) s1.h=some (l.map G,s1.h):=by
  intro l;induction l with
  | nil=>intro _;rfl
  | cons a l ih =>
   intro H;show(bd (bJ link s1.ρ) (e a) s1.h).bind _=_;rw[H a aO];show(fP (bd (bJ link s1.ρ)) (l.map e) s1.h).map _=_;rw[ih λb c=>H b (aM _ c)]
   rfl
 show(if(l.map e).length<=gF then fP _ (l.map e) s1.h else none).bind _=_
 rw[if_pos (show(l.map e).length<=gF by rw[aD];exact f),this l c]
 rfl)
def cE(h1:Ev fa s p s1)(a:Ev b s1 l s2)(c:Ev d s2 h s3)(e:Mp s3.h l h p=some q):Ev (cutE fa b d) s q s3:=eB h1 (eB a (eB c (by show(Mp s3.h l h p).map _=_;rw[e];rfl)))
def SJ(k:Nat)(ps:List Sh)(q:Nat)(hd:su ps<=k)(i:(il ps).length<=1000)(j:ps.length<=1000)(a b d:Option PV) :
  Ek (gI Jd (aj (cY false [none,none] (gP (cutE Qv (aV none) (oi (rd 4)))) (kx (aX 1) (gI gA (aj (bnd Q0 (bD 0 1 (run txt (k+1) "leaves"))) (aV []))))) (aV []))) (S0 [a,b,some (enc (.bH ps)),d,some (.int (q:Int))]) (.int ((il (ps.take q)).length:Int)):=by
 have e:=JX [] ((ps.take q).map λs=>((lv s).length:Int))
 rw[SH,bY]at e;have c:Mp [] none (some q) (.aq (cj ps))=some (.aq ((ps.take q).map enc)):=by
  show some (PV.aq (lX (cj ps) none (some q)))=_;rw[Yg,lg,List.map_take]
 refine bV (cA (cM (sV (cE (b2 rfl rfl rfl) rfl rfl c) rfl) (by grind) λs f=>?_) rfl) e
 have g:=eS.each LA ps k hd (by lia) s (List.mem_of_mem_take f)
 refine e1 rfl (bV (cA (cb (cA rfl rfl) rfl rfl g) rfl) ?_);show some (PV.int ((cj (lv s)).length:Int))=_;rw[fF];rfl
theorem vb(k:Nat)(A P:Option PV):∀(p:List Int) (s:Sh) (a:Int) (o:Option PV) (b:Sh) (c:Int),(tab s).length<=500->dp s<=k->walk s a p=some (b,c)->∃d,dX (aX 4) (JO (run txt (k+1))) (p.map .int) (S0 [A,P,some (enc s),some (.int a),o])=some (.ok .nx,S0 [A,P,some (enc b),some (.int c),d])
 | [],s,a,o,b,c,_,_,h=>by
  simp[walk]at h;obtain⟨rfl,rfl⟩:=h;exact⟨o,rfl⟩
 | i::p,s,a,o,b,c,ht,hd,h=>by
  obtain⟨x,f,hw⟩:=sR.mp (h);have hc:=HI k f;obtain⟨ps,rfl,g,j,e⟩:=u9 f;have l:=cK j;have B:=JJ l;have r:(tab (.bH ps)).length=jt ps+1:=by simp only[tab,aR,iK]
  have t:=FC ps;have u:=Ck ps;have v:=Yd l;have w:su ps+1<=k:=by simpa only[dp]using hd
  obtain⟨d,q⟩:=vb k A P p x.1 (a+x.2) (some (.int i)) b c (bC ‹_› ‹_›) (by lia) hw
  have m:=SJ k ps i.toNat (dN ‹_›) (by lia) (by lia) A P (some (.int a))
  rw[mM g,<-e]at m;have y:=HF g j;exact⟨d,fC rfl (sq (dS (cb (cA rfl (cA rfl rfl)) rfl rfl hc)) (sq (aS (b2 rfl m rfl) rfl) (aS (b2 (b2 rfl rfl rfl) rfl y) rfl))) q⟩
def SK(k:Nat)(s:Sh)(p:List Int)(x:Sh×Int)(ht:(tab s).length<=500)(hd:dp s<=k)(h:walk s 0 p=some x):Gives (run txt (k+2) "first" [enc s,.aq (p.map .int)] []) (.int x.2):=by
 rw[JP];obtain⟨a,q⟩:=vb k (some (enc s)) (some (.aq (p.map .int))) p s 0 none x.1 x.2 ht hd h;exact gV (sq (aS rfl rfl) (sq (aS rfl rfl) (sq (fS rfl q) (rS rfl)))) rfl
structure bW where
 w:Str
 n:Str
 t:Bool
 f:Int
 m:Int
 k:Str
def l8(a:bW):PV:=.aq [.str a.w,.str a.n,.bl a.t,.int a.f,.int a.m,.str a.k]
noncomputable def vc:bW:=⟨"rest","",false,0,0,""⟩
def jd:bW:=⟨"hand","",false,0,0,""⟩
def spT(x:Str)(b:Bool)(p:List Int)(a:PV):PV:=.aq [.str x,.bl b,.aq (p.map .int),a]
def Ao(s:Sh):Prop:=(tab s).length<=100/\dp s<=3
def oM(F:PV)(ks:List Rk):Prop:=∀k,∀r∈ks,Gives (run txt (k+1) "kind_of" [F,.str r.1] []) (encK r.2)
def tA(w x:Str)(d:Kn)(r:Rw)(t:Str):bW:=⟨w,x,iS d,r.2.1,r.2.2.1,t⟩
def GL(n res a:PV)(R1 R2:List Rk)(h:R1.length+R2.length<=1000)(b:((R1++R2).map (·.1)).Nodup):oM (DK n res a R1 R2) (R1++R2):=λk r hr=>JW k n res a R1 R2 r.1 r.2 (lN _ r b hr) h
def hZ(hF:oM F ks)(k:Nat)(hk:3<=k)(w t:Str)(e:(x,d)∈ks)(b:Ao (held d))(hr:r∈tab (held d))(a:PV):Gives (run txt (k+3) "touch" [F,.str w,spT x (iS d) r.1 a,.str t] []) (l8 (tA w x d r t)):=by
 rw[JR];have hw:=Cp (held d) r hr 0;have hd:=An (held d) r hr;have p:=xB (held d);have f:=hF (k+1) (x,d) e;have g:=u7 k d;have i:=Ye k (held d) r.1 _ hw;have j:=eS.all LA r.2.2.2 (k+1) (by have:=b.2;lia) (by have:=b.1;lia)
 have c:=SK k (held d) r.1 _ (by have:=b.1;lia) (by have:=b.2;lia) hw
 have l:=NO (held d) r hr;have m:0+r.2.1=r.2.1:=by lia
 rw[m]at c;have o:gA [] [.aq (cj (lv r.2.2.2))]=some (.int r.2.2.1):=by
  show some (PV.int ((cj (lv r.2.2.2)).length:Int))=_;rw[fF,l];rfl
 exact gV (sq (aS (cb (cA (cb (cA rfl (cA (b2 rfl rfl rfl) rfl)) rfl rfl f) rfl) rfl rfl g) rfl)
  (sq (aS (bV (cA (cb (cA (cb (cA rfl (cA (b2 rfl rfl rfl) rfl)) rfl rfl i) rfl) rfl rfl j) rfl) o) rfl)
  (rS (tU (cA rfl (cA (b2 rfl rfl rfl) (cA (b2 rfl rfl rfl) (cA (cb (cA rfl (cA (b2 rfl rfl rfl) rfl)) rfl rfl c) (cA rfl (cA rfl rfl)))))) (by simp))))) rfl
def iL(s:Sh):(([],0,sz s,s):Rw)∈tab s:=by
 obtain⟨L,e⟩:=Cj s;rw[e];exact aO
def fH(hF:oM F ks)(k:Nat)(hk:3<=k)(w t:Str)(a:(x,d)∈ks)(b:Ao (held d)):Gives (run txt (k+4) "touch_whole" [F,.str w,.str x,.str t] []) (l8 (tA w x d ([],0,sz (held d),held d) t)):=by
 rw[rL];have c:=hF (k+2) (x,d) a;have e:=eW (k+2) d;have f:=hZ hF k hk w t a b (iL (held d)) .cf;exact gV (rS (cb (cA rfl (cA rfl (cA (tU (cA rfl (cA (cb (cA (cb (cA rfl (cA rfl rfl)) rfl rfl c) rfl) rfl rfl e) (cA (tU rfl (by simp)) (cA rfl rfl)))) (by simp)) (cA rfl rfl)))) rfl rfl f)) rfl
def gq(as:List bW):PV:=.lst (as.map l8)
def agi(a:bW):noRef (l8 a)=true:=rfl
theorem NQ:∀as:List bW,ah (as.map l8)=true
 | []=>rfl
 | a::as=>by simp[ah,agi,NQ as]
def CJ(as:List bW):noRef (gq as)=true:=by simp[gq,noRef,NQ]
def aL(b:ps.length+a.length<=4000000):eQ h (.lst ps) (.lst a)=some (.lst (ps++a)):=by
 have e:eQ h (.lst ps) (.lst a)=sizeOk (ps.length+a.length) (.lst (ps++a)):=rfl;rw[e];exact if_pos (b)
def lE(as bs:List bW)(h:List aE)(a:as.length+bs.length<=1000):eQ h (gq as) (gq bs)=some (gq (as++bs)):=by
 unfold gq;rw[bU];exact aL (by grind)
inductive CK (ks:List Rk):PV->Prop
 | cf:CK ks .cf
 | int (i:Int):CK ks (.int i)
 | str (y:Str) (h:(y,Kn.ow .num)∈ks):CK ks (.str y)
noncomputable def DL:PV->List bW
 | .str y=>[⟨"read",y,false,0,1,""⟩]
 | _=>[]
def xM(hF:oM F ks)(k:Nat)(hk:3<=k)(x:Str)(c:Bool)(p:List Int)(d:CK ks a):Gives (run txt (k+5) "at_acts" [F,spT x c p a] []) (gq (DL a)):=by
 rw[CD];cases d with
 | cf=>exact gV (o9 (iT (nB (tR (p:=.bl false) (by rfl) rfl)) (rS rfl))) rfl
 | int i=>exact gV (o9 (iT (nB (tR (p:=.bl false) (by rfl) rfl)) (rS rfl))) rfl
 | str y h =>
  have b:=fH hF k hk "read" "" h ⟨by simp[held,tab],by simp[held,dp]⟩
  have e:tA "read" y (.ow .num) ([],0,sz (held (.ow .num)),held (.ow .num)) ""=⟨"read",y,false,0,1,""⟩:=by
   simp[tA,iS,held,sz,lv]
  rw[e]at b;exact gV (sq (iF (nB (tR (p:=.bl true) (by rfl) rfl)) rfl) (rS (lS (cA (cb (cA rfl (cA rfl (cA (b2 rfl rfl rfl) (cA rfl rfl)))) rfl rfl b) rfl) (by show 1<=4000000;decide)))) rfl
structure Sp where
 x:Str
 d:Kn
 r:Rw
 a:PV
def ck(s:Sp):PV:=spT s.x (iS s.d) s.r.1 s.a
structure dA (ks:List Rk) (s:Sp):Prop where
 mem:(s.x,s.d)∈ks
 ok:Ao (held s.d)
 row:s.r∈tab (held s.d)
 at_:CK ks s.a
def qm(w:Str)(s:Sp)(t:Str):bW:=tA w s.x s.d s.r t
inductive Op where
 | n (i:Int) | s (s:Sp)
def gu:Op->PV
 | .n i=>.int i
 | .s s=>ck s
def eX(ks:List Rk):Op->Prop
 | .n _=>True
 | .s s=>dA ks s
def oN:Op->List bW
 | .n _=>[]
 | .s s=>DL s.a++[qm "read" s ""]
def Ap(a:PV):(DL a).length<=1:=by
 unfold DL;split<;>simp
def dI(hF:oM F ks)(k:Nat)(hk:3<=k)(ho:eX ks o):Gives (run txt (k+6) "operand_acts" [F,gu o] []) (gq (oN o)):=by
 rw[qj];cases o with
 | n i=>exact gV (o9 (iT (nB (tR (p:=.bl false) (by rfl) rfl)) (rS rfl))) rfl
 | s s =>
  obtain⟨b,c,e,f⟩:=ho;have e1:=xM hF k hk s.x (iS s.d) s.r.1 f;have g:=hZ hF (k+2) (fj ‹_›) "read" "" b c e s.a;have j:=Ap s.a;exact gV (sq (iF (nB (tR (p:=.bl true) (by rfl) rfl)) rfl) (rS (b2 (cb (cA rfl (cA rfl rfl)) rfl rfl e1) (lS (cA (cb (cA rfl (cA rfl (cA rfl (cA rfl rfl)))) rfl rfl g) rfl) (by simp)) (lE (DL s.a) [qm "read" s ""] [] (by simp;lia))))) (CJ _)
def wH(s:Sp):List bW:=match s.a with
 | .cf=>[qm "fill" s ""]
 | a=>DL a++[qm "turn" s ""]
def mG(hF:oM F ks)(k:Nat)(hk:3<=k)(g:dA ks s):Gives (run txt (k+6) "target_acts" [F,ck s] []) (gq (wH s)):=by
 rw[rM];obtain⟨b,c,e,f⟩:=g;have e1:=xM hF k hk s.x (iS s.d) s.r.1 f;have j:=hZ hF (k+2) (fj ‹_›) "fill" "" b c e s.a;have l:=hZ hF (k+2) (fj ‹_›) "turn" "" b c e s.a;obtain⟨x,d,r,a⟩:=s;have m:=Ap a;have nJ:∀(z:Zj [] a .cf=some (.bl false)) (q:wH ⟨x,d,r,a⟩=DL a++[qm "turn" ⟨x,d,r,a⟩ ""]),Gives (dJ (mB (run txt (k+5))) 2 [F,ck ⟨x,d,r,a⟩] []) (gq (wH ⟨x,d,r,a⟩)):=by
  intro z q;rw[q];exact gV (sq (iF (bT (b2 (b2 rfl rfl rfl) rfl z)) rfl) (rS (b2 (cb (cA rfl (cA rfl rfl)) rfl rfl e1) (lS (cA (cb (cA rfl (cA rfl (cA rfl (cA rfl rfl)))) rfl rfl l) rfl) (by simp)) (lE (DL a) [qm "turn" ⟨x,d,r,a⟩ ""] [] (by simp;lia))))) (CJ _)
 cases f with
 | cf=>exact gV (o9 (iT (bT (b2 (b2 rfl rfl rfl) rfl rfl)) (rS (lS (cA (cb (cA rfl (cA rfl (cA rfl (cA rfl rfl)))) rfl rfl j) rfl) (by show 1<=4000000;decide))))) rfl
 | int i=>exact nJ rfl rfl
 | str y h=>exact nJ rfl rfl
def ju(o:Op):(oN o).length<=2:=by
 cases o with
 | n i=>simp[oN]
 | s s=>have:=Ap s.a;simp[oN];lia
def Aq(s:Sp):(wH s).length<=2:=by
 unfold wH;split
 ·simp
 ·rename_i a _;have:=Ap s.a;simp
  lia
section
variable {F:PV} {ks:List Rk} (hF:oM F ks) (k:Nat) (hk:3<=k)
include hF hk
def F7(w:Str)(a:dA ks s)(ho:eX ks o):Gives (run txt (k+7) "put_acts" [F,.aq [.str w,ck s,gu o]] []) (gq (oN o++wH s)):=by
 rw[Ac];have b:=dI hF k hk ho;have c:=mG hF k hk a;have d:=ju o;have e:=Aq s;exact gV (rS (b2 (cb (cA rfl (cA (b2 rfl rfl rfl) rfl)) rfl rfl b) (cb (cA rfl (cA (b2 rfl rfl rfl) rfl)) rfl rfl c) (lE _ _ _ (by lia)))) (CJ _)
def F8(w:Str)(c:dA ks s)(q:PV)(d:eX ks a)(e:eX ks b):Gives (run txt (k+7) "set_acts" [F,.aq [.str w,ck s,q,gu a,gu b]] []) (gq (oN a++oN b++wH s)):=by
 rw[Ad];have f:=dI hF k hk d;have g:=dI hF k hk e;have i:=mG hF k hk c;have j:=ju a;have l:=ju b;have m:=Aq s;exact gV (rS (b2 (b2 (cb (cA rfl (cA (b2 rfl rfl rfl) rfl)) rfl rfl f) (cb (cA rfl (cA (b2 rfl rfl rfl) rfl)) rfl rfl g) (lE _ _ _ (by lia))) (cb (cA rfl (cA (b2 rfl rfl rfl) rfl)) rfl rfl i) (lE _ _ _ (by grind)))) (CJ _)
def JY(w:Str)(q:PV)(c:eX ks a)(d:eX ks b):Gives (run txt (k+7) "if_acts" [F,.aq [.str w,gu a,gu b,q]] []) (gq (oN a++oN b)):=by
 rw[CG];have e:=dI hF k hk c;have f:=dI hF k hk d;have g:=ju a;have i:=ju b;exact gV (rS (b2 (cb (cA rfl (cA (b2 rfl rfl rfl) rfl)) rfl rfl e) (cb (cA rfl (cA (b2 rfl rfl rfl) rfl)) rfl rfl f) (lE _ _ _ (by lia)))) (CJ _)
def F9(w:Str)(b:eX ks a):Gives (run txt (k+7) "say_acts" [F,.aq [.str w,gu a]] []) (gq (oN a)):=by
 rw[Ae];have c:=dI hF k hk b;exact gV (rS (cb (cA rfl (cA (b2 rfl rfl rfl) rfl)) rfl rfl c)) (CJ _)
omit hF hk in
def JZ(p:PV):Gives (run txt (k+7) "go_acts" [F,p] []) (gq []):=by
 rw[CH];exact gV (rS rfl) rfl
omit hF hk in
def Ar(w:Str):Gives (run txt (k+7) "give_acts" [F,.aq [.str w,.str ""]] []) (gq []):=by
 rw[mD];exact gV (o9 (iT (bT (b2 (b2 rfl rfl rfl) rfl (show jG [] (.str "") (.str "")=some (.bl true) by kernel_rfl))) (rS rfl))) rfl
theorem CL(w:Str)(b:dA ks s)(ht:dA ks t):Gives (run txt (k+7) "copy_acts" [F,.aq [.str w,ck s,ck t]] []) (gq [qm "read" t "",qm "fill" s ""]):=by
 rw[wB];have c:=hZ hF (k+3) (ji _ _) "read" "" ht.mem ht.ok ht.row t.a;have d:=hZ hF (k+3) (ji _ _) "fill" "" b.mem b.ok b.row s.a;exact gV (rS (lS (cA (cb (cA rfl (cA rfl (cA (b2 rfl rfl rfl) (cA rfl rfl)))) rfl rfl c) (cA (cb (cA rfl (cA rfl (cA (b2 rfl rfl rfl) (cA rfl rfl)))) rfl rfl d) rfl)) (by simp))) rfl
theorem CM(w:Str)(b:dA ks s)(ht:dA ks t):Gives (run txt (k+7) "move_acts" [F,.aq [.str w,ck s,ck t]] []) (gq [qm "empty" t "",qm "fill" s ""]):=by
 rw[wC];have c:=hZ hF (k+3) (ji _ _) "empty" "" ht.mem ht.ok ht.row t.a;have d:=hZ hF (k+3) (ji _ _) "fill" "" b.mem b.ok b.row s.a;exact gV (rS (lS (cA (cb (cA rfl (cA rfl (cA (b2 rfl rfl rfl) (cA rfl rfl)))) rfl rfl c) (cA (cb (cA rfl (cA rfl (cA (b2 rfl rfl rfl) (cA rfl rfl)))) rfl rfl d) rfl)) (by simp))) rfl
theorem CN(w t:Str)(b:dA ks s):Gives (run txt (k+7) "lend_acts" [F,.aq [.str w,.str t,ck s]] []) (gq [qm w s t]):=by
 rw[wD];have c:=hZ hF (k+3) (ji _ _) w t b.mem b.ok b.row s.a;exact gV (rS (lS (cA (cb (cA rfl (cA (b2 rfl rfl rfl) (cA (b2 rfl rfl rfl) (cA (b2 rfl rfl rfl) rfl)))) rfl rfl c) rfl) (by simp))) rfl
end
noncomputable def qS:Sh->Bool
 | .own=>true
 | _=>false
abbrev oP:PV:=.aq [.str "own"]
mutual
def AR:Sh->Tr
 | .num=>.aq [.str "num"]
 | .own=>.aq [.str "own"]
 | .bN n=>.aq [.str "strip",.int n]
 | .bH ps=>.aq [.str "rec",.aq (rO ps)]
def rO:List Sh->List Tr
 | []=>[]
 | s::l=>AR s::rO l
end
mutual
theorem toT_enc(h:List aE):∀(s:Sh) (n:Nat),2*dp s+2<n->toT h n (enc s)=some (AR s)
 | .num,n+3,_=>rfl
 | .own,n+3,_=>rfl
 | .bN _,n+3,_=>rfl
 | .bH ps,n+3,a=>by
  have:=toT_encs h ps (n+1) (by simp only[dp]at a;lia)
  have e1:toT h (n+2) (.str "rec")=some (.str "rec"):=rfl;have b:toT h (n+2) (.aq (cj ps))=some (.aq (rO ps)):=by
   show((c9 (toT h (n+1)) (cj ps)).bind (Ml .aq))=_;rw[this];rfl
  show((c9 (toT h (n+2)) [.str "rec",.aq (cj ps)]).bind (Ml .aq))=_;simp only[c9,e1,b,dM,iw,AR,Ml]
 | .num,0,a=>by lia
 | .num,1,a=>by lia
 | .num,2,a=>by lia
 | .own,0,a=>by lia
 | .own,1,a=>by lia
 | .own,2,a=>by lia
 | .bN _,0,a=>by lia
 | .bN _,1,a=>by lia
 | .bN _,2,a=>by lia
 | .bH _,0,a=>by lia
 | .bH _,1,a=>by lia
 | .bH _,2,a=>by lia
theorem toT_encs h:∀l n,2*su l+2<n->c9 (toT h n) (cj l)=some (rO l)
 | [],_,_=>rfl
 | s::l,n,a=>by
  simp only[su]at a;have b:=toT_enc h s n (by lia)
  have c:=toT_encs h l n (by lia)
  simp only[cj,c9,b,c,dM,iw,rO]
end
def Yh(s:Sh):eqT (AR s) (.aq [.str "own"])=qS s:=by
 cases s with
 | bH ps=>show((Str.ofString "rec"==Str.ofString "own")&&pZ [.aq (rO ps)] [])=false;rw[show(Str.ofString "rec"==Str.ofString "own")=false by decide +kernel];rfl
 | num=>decide +kernel
 | own=>decide +kernel
 | bN n=>show((Str.ofString "strip"==Str.ofString "own")&&pZ [.int n] [])=false;rw[show(Str.ofString "strip"==Str.ofString "own")=false by decide +kernel];rfl
theorem Ga:∀l:List Sh,((rO l).any λy=>eqT y (.aq [.str "own"]))=l.any qS
 | []=>rfl
 | s::l=>by rw[rO,iy,iy,Ga l,Yh]
def cpd(s:Sh):Bool:=!(lv s).any qS
theorem vd:∀{l:List Sh},(∀x∈l,jr x=true)->su l=0
 | [],_=>rfl
 | s::l,h=>by
  have b:=(Fy (h s aO)).2;have c:=vd λx a=>h x (aM _ a)
  simp only[su]
  lia
def Yi(s:Sh):ku true [] oP (.aq (cj (lv s)))=some (.bl (cpd s)):=by
 have hd:=vd (zW s);have e:=toT_encs [] (lv s) fX (by rw[hd];decide)
 have a:Mm [] oP (cj (lv s))=some ((lv s).any qS):=by
  unfold Mm;rw[e,show toT [] fX oP=some (.aq [.str "own"])from rfl,<-Ga]
  rfl
 have e1:ku true [] oP (.aq (cj (lv s)))=(Mm [] oP (cj (lv s))).map λb=>.bl (if true=true then !b else b):=rfl
 rw[e1,a];unfold cpd;cases(lv s).any qS<;>rfl
def oW(s:Sh):Str:=if cpd s=true then "read" else "empty"
abbrev Gb(s:Sh):Rw:=([],0,sz s,s)
def tkA(x:Str)(d:Kn)(t:Str):bW:=match d with
 | .ow s=>tA (oW s) x (.ow s) (Gb s) ""
 | .ho b s=>tA (if b=true then "sole" else "lend") x (.ho b s) (Gb s) t
def Zr(x:Str)(d:Kn):bW:=match d with
 | .ow s=>tA (oW s) x (.ow s) (Gb s) ""
 | .ho b s=>tA "give" x (.ho b s) (Gb s) ""
def CP(k:Nat)(s:Sh)(hd:dp s<=k)(a:(lv s).length<=4000000):Gives (run txt (k+2) "is_copied" [enc s] []) (.bl (cpd s)):=by
 rw[wA];have h:=eS.all LA s k hd a;exact gV (rS (b2 (tU (cA rfl rfl) (by simp)) (cb (cA rfl rfl) rfl rfl h) (Yi s))) rfl
section
variable {F:PV} {ks:List Rk} (hF:oM F ks) (k:Nat) (hk:3<=k)
include hF hk
def qT(b:(x,Kn.ow s)∈ks)(a:Ao s):Gives (run txt (k+5) "owner_act" [F,.str x] []) (l8 (tA (oW s) x (.ow s) (Gb s) "")):=by
 rw[wG];have c:=hF (k+3) _ b;have f:=xB s;have d:=CP (k+2) s (by have:=a.2;lia) (by have:=a.1;lia)
 have e:=fH hF k hk (oW s) "" b a;exact gV (rS (cb (cA rfl (cA (by
  refine eI (tR (cb (cA (cb (cA rfl (cA rfl rfl)) rfl rfl c) rfl) rfl rfl d) rfl) ?_;unfold oW;cases cpd s<;>rfl) (cA rfl (cA rfl rfl)))) rfl rfl e)) rfl
def J0(a:(x,d)∈ks)(e:Ao (held d))(t:Str):Gives (run txt (k+6) "arg_act" [F,.str x,.str t] []) (l8 (tkA x d t)):=by
 rw[CF];have i:=hF (k+4) _ a;have j:=eW (k+4) d;have f:Ev (dh (bnd Qj (bD 0 2 (run txt (k+5) "kind_of"))) (aX 3)) (S0 [some F,some (.str x),some (.str t),none]) .nx (S0 [some F,some (.str x),some (.str t),some (encK d)]):=aS (cb (cA rfl (cA rfl rfl)) rfl rfl i) rfl;have g:Ek (nY (eH (bnd Qw (bD 0 1 (run txt (k+5) "is_holder"))))) (S0 [some F,some (.str x),some (.str t),some (encK d)]) (!iS d):=nB (tR (cb (cA rfl rfl) rfl rfl j) rfl);cases d with
 | ow s =>
  have c:=qT hF k hk a e;exact gV (sq f (o9 (iT g (rS (cb (cA rfl (cA rfl rfl)) rfl rfl c))))) rfl
 | ho b s =>
  have c:=fH hF (k+1) (fj ‹_›) (if b=true then "sole" else "lend") t a e
  have hw:Ek (dk (toB (op2 jG (op2 bf (rd 3) (kI 0)) (aV (PV.str "lent")))) (aV (PV.str "lend")) (aV (PV.str "sole"))) (S0 [some F,some (.str x),some (.str t),some (encK (.ho b s))]) (PV.str (if b=true then "sole" else "lend")):=by
   cases b with
   | false=>exact iT (bT (b2 (b2 rfl rfl rfl) rfl (show jG [] (.str (hw false)) (.str "lent")=some (.bl true) by kernel_rfl))) rfl
   | true=>exact iF (bT (b2 (b2 rfl rfl rfl) rfl (show jG [] (.str (hw true)) (.str "lent")=some (.bl false) by kernel_rfl))) rfl
  exact gV (sq f (sq (iF g rfl) (rS (cb (cA rfl (cA hw (cA rfl (cA rfl rfl)))) rfl rfl c)))) rfl
def CQ(w:Str)(a:(x,d)∈ks)(f:Ao (held d))(c:(x==(Str.ofString ""))=false):Gives (run txt (k+7) "give_acts" [F,.aq [.str w,.str x]] []) (gq [Zr x d]):=by
 rw[mD];have j:=hF (k+5) _ a;have l:=eW (k+5) d;have g:Ek QG (S0 [some F,some (.aq [.str w,.str x])]) false:=by
  refine bT (b2 (b2 rfl rfl rfl) rfl ?_);rw[dz,c]
 have i:Ek (eH (bnd (aj (bnd QT (bD 0 2 (run txt (k+6) "kind_of"))) (aV [])) (bD 0 1 (run txt (k+6) "is_holder")))) (S0 [some F,some (.aq [.str w,.str x])]) (iS d):=tR (cb (cA (cb (cA rfl (cA (b2 rfl rfl rfl) rfl)) rfl rfl j) rfl) rfl rfl l) rfl;cases d with
 | ow s =>
  have e:=qT hF (k+1) (fj ‹_›) a f;exact gV (sq (iF g rfl) (sq (iF i rfl) (rS (lS (cA (cb (cA rfl (cA (b2 rfl rfl rfl) rfl)) rfl rfl e) rfl) (by simp))))) rfl
 | ho b s =>
  have e:=fH hF (k+2) (fj ‹_›) "give" "" a f;exact gV (sq (iF g rfl) (o9 (iT i (rS (lS (cA (cb (cA rfl (cA rfl (cA (b2 rfl rfl rfl) (cA rfl rfl)))) rfl rfl e) rfl) (by simp)))))) rfl
end
noncomputable abbrev sI(i:Nat):Str:=Str.ofString (toString (i:Int))
def fN:Nat->List Rk->List bW
 | _,[]=>[]
 | i,r::l=>tkA r.1 r.2 (sI i)::fN (i+1) l
theorem ve:∀(l:List Rk) (i:Nat),(fN i l).length=l.length
 | [],_=>rfl
 | r::l,i=>by simp[fN,ve l]
def ie:Option Rk->List bW
 | none=>[]
 | some (x,.ow s)=>[tA "fill" x (.ow s) (Gb s) ""]
 | some (x,.ho _ _)=>[⟨"take","",false,0,0,x⟩]
def Gd:Option Rk->Str
 | none=>""
 | some r=>r.1
def Zs(ks:List Rk):Prop:=∀q∈ks,Ao (held q.2)
def NR(h:List aE)(i:Nat)(a:i<1000):Jc h [.int (i:Int)]=some (.str (sI i)):=if_pos ⟨by lia,by lia⟩
theorem cF:∀l:List α,(∀a∈l,bd (e a) h=some (some (G a),h))->fP bd (l.map e) h=some (l.map G,h)
 | [],_=>rfl
 | a::l,H=>by
  show(bd (e a) h).bind _=_;rw[H a aO];show(fP bd (l.map e) h).map _=_;rw[cF l λb c=>H b (aM _ c)]
  rfl
def cN(a:Ev fi s (.sq ps) s1)(b:ps.length<=4000000)(c:fP (bd (bJ link s1.ρ)) ps s1.h=some (d,s1.h)):Ev (cY true link fi bd) s (.ref s1.h.length) ⟨s1.ρ,s1.h++[⟨.lst,d⟩]⟩:=eB a (by
 show(if ps.length<=gF then fP _ ps s1.h else none).bind _=_
 rw[if_pos (show ps.length<=gF from b),c]
 rfl)
theorem HJ:∀ps:List PV,ah ps=true->c9 (we h n) ps=some ps
 | [],_=>rfl
 | p::ps,hp=>by
  simp only[ah,aY]at hp;have e:we h n p=some p:=by cases n<;>(unfold we;rw[if_pos hp.1])
  simp only[c9,e,HJ ps hp.2,dM,iw]
def j7(hp:ah ps=true):k8 (⟨.lst,ps⟩::r) (.ref 0)=some (.lst ps):=by
 unfold k8;rw[if_neg (by simp)]
 unfold we;rw[if_neg (by simp[noRef])]
 show((c9 (we _ 3) ps).map _)=_;rw[HJ ps hp];rfl
theorem HK:∀(l:List Rk) (i:Nat),(∀r∈l,∀j:Nat,j<1000->bd (qE (.int (j:Int)) (.str r.1)) h=some (some (l8 (tkA r.1 r.2 (sI j))),h))->i+l.length<=1000->fP bd (dG i (l.map λr=>PV.str r.1)) h=some ((fN i l).map l8,h)
 | [],_,_,_=>rfl
 | r::l,i,H,a=>by
  simp only[aR]at a;show(bd (qE (.int i) (.str r.1)) h).bind _=_;rw[H r aO i (by lia)]
  show(fP bd (dG (i+1) (l.map λr=>PV.str r.1)) h).map _=_
  rw[HK l (i+1) (λq b=>H q (aM _ b)) (by lia)]
  rfl
theorem xN:∀(l:List PV) (i:Nat),(dG i l).length=l.length
 | [],_=>rfl
 | a::l,i=>by simp[dG,xN l]
def eV(h:Ev fa s p s1)(hp:zC p=some ps):Ev (xm fa) s (dG 0 ps) s1:=eB h (by show((zC p).map _).map _=_;rw[hp];rfl)
section
variable {F:PV} {ks:List Rk} (hF:oM F ks) (k:Nat) (hk:3<=k) (hN:noRef F=true)
include hF hk hN
def CS(w:Str)(fn:PV)(u:∀r∈a,r∈ks)(ho:Zs ks)(Q:a.length<=10)(ht:∀r,tk=some r->r∈ks/\(r.1==(Str.ofString ""))=false):Gives (run txt (k+7) "call_acts" [F,.aq [.str w,.str (Gd tk),fn,.aq (a.map λr=>.str r.1)]] []) (gq (fN 0 a++jd::ie tk)):=by
 rw[wF];obtain⟨p,hp⟩:=nw (PV.aq [.str w,.str (Gd tk),fn,.aq (a.map λr=>.str r.1)])
 have D:∀h,bf h p (.int 3)=some (.aq (a.map λr=>.str r.1)):=λh=>by rw[hp];rfl
 have c:∀h,bf h p (.int 1)=some (.str (Gd tk)):=λh=>by rw[hp];rfl
 rw[<-hp];have E:=ve a 0;have i:Ev (dh (cY true [none,none,none,some 0] (He (xm (op2 bf (rd 1) (kI 3)))) (kx Qk (bnd (aj (rd 3) (aj (rd 2) (aj (gI Jc Q0) (aV [])))) (bD 0 3 (run txt (k+6) "arg_act"))))) (aX 2)) (S0 [some F,some p,none]) .nx ⟨[some F,some p,some (.ref 0)],[⟨.lst,(fN 0 a).map l8⟩]⟩:=by
  refine aS (cN (sG (eV (b2 rfl rfl (D _)) rfl)) (by rw[xN,aD];lia) (HK a 0 (λr hr j H=>?_) (by lia))) rfl
  have h:=J0 hF k hk (u r hr) (ho r (u r hr)) (sI j);exact e1 rfl (cb (cA rfl (cA rfl (cA (bV (cA rfl rfl) (NR _ j H)) rfl))) rfl rfl h)
 obtain⟨L,f⟩:=nw ((fN 0 a++[jd]).map l8);have I:L.length<=100:=by rw[f];simp[E];lia
 have l:Ev (gj (zD "list" (k0 (iB wa)) (rd 2) (aj (aV (.aq [(.str "hand"),(.str ""),(.bl false),(.int 0),(.int 0),(.str "")])) (aV [])))) ⟨[some F,some p,some (.ref 0)],[⟨.lst,(fN 0 a).map l8⟩]⟩ .nx ⟨[some F,some p,some (.ref 0)],[⟨.lst,L⟩]⟩:=by
  rw[f,bU];exact dS (sx rfl rfl (cA rfl rfl) (aC rfl (by rw[aD];lia)))
 have v:Ek QG ⟨[some F,some p,some (.ref 0)],[⟨.lst,L⟩]⟩ (Gd tk==(Str.ofString "")):=bT (b2 (b2 rfl rfl (c _)) rfl (dz _ _ _));have m:ah L=true:=by rw[f];exact NQ _
 have g:∀q:bW,eQ [⟨.lst,L⟩] (.ref 0) (.lst [l8 q])=some (gq (fN 0 a++jd::[q])):=λq=>by
  have e:eQ [⟨.lst,L⟩] (.ref 0) (.lst [l8 q])=sizeOk (L.length+1) (.lst (L++[l8 q])):=rfl;rw[e];refine(if_pos (by have:gF=4000000:=rfl;lia)).trans ?_
  rw[f];simp[gq]
 cases tk with
 | none =>
  rw[show(Gd none==(Str.ofString ""))=true by decide +kernel]at v
  refine⟨_,_,iJ (sq i (sq l (o9 (iT v (rS rfl))))),?_⟩;rw[j7 m,f];rfl
 | some r =>
  obtain⟨o,y⟩:=ht r rfl;obtain⟨x,d⟩:=r;have c:∀h,bf h p (.int 1)=some (.str x):=c
  simp only at y;have B:Ek QG ⟨[some F,some p,some (.ref 0)],[⟨.lst,L⟩]⟩ false:=bT (b2 (b2 rfl rfl (c _)) rfl (by rw[dz,y]))
  have J:=hF (k+5) _ o;have M:=eW (k+5) d;have t:ah [F,PV.str x]=true:=by simp[ah,hN,noRef]
  have C:Ek (eH (bnd (aj (bnd QT (bD 0 2 (run txt (k+6) "kind_of"))) (aV [])) (bD 0 1 (run txt (k+6) "is_holder")))) ⟨[some F,some p,some (.ref 0)],[⟨.lst,L⟩]⟩ (iS d):=tR (cb (cA (cb (cA rfl (cA (b2 rfl rfl (c _)) rfl)) rfl (by rw[t];rfl) J) rfl) rfl (by simp[ah,sE]) M) rfl
  cases d with
  | ho b s =>
   exact gV (sq i (sq l (sq (iF B rfl) (o9 (iT C (rS (b2 rfl (lS (cA (tU (cA rfl (cA rfl (cA rfl (cA rfl (cA rfl (cA (b2 rfl rfl (c _)) rfl)))))) (by simp)) rfl) (by simp)) (g ⟨"take","",false,0,0,x⟩)))))))) (CJ _)
  | ow s =>
   have N:=fH hF (k+2) (fj ‹_›) "fill" "" o (ho _ o);exact gV (sq i (sq l (sq (iF B rfl) (sq (iF C rfl) (rS (b2 rfl (lS (cA (cb (cA rfl (cA rfl (cA (b2 rfl rfl (c _)) (cA rfl rfl)))) rfl (by simp[ah,hN,noRef]) N) rfl) (by simp)) (g (tA "fill" x (.ow s) (Gb s) "")))))))) (CJ _)
end
def l9(i:Nat)(a:bW):PV:=.aq [.int i,.str a.w,.str a.n,.bl a.t,.int a.f,.int a.m,.str a.k]
def cR:List bW->List bW
 | []=>[vc]
 | a::r=>a::r
structure NS (c:CT) (F p:PV) (as:List bW):Prop where
 ex:∃w fn rest,p=.aq (.str w::rest)/\jU.lookup w=some fn/\X9.lookup fn=some 2/\Gives (c fn [F,p] []) (gq as)
 few:as.length<=20
 nr:noRef p=true
def UI(h:as.length<=20):(cR as).length<=20:=by
 cases as with
 | nil=>simp[cR]
 | cons a r=>exact h
def clF{tab:List (Str×Str)}{q:PV}(hk:Ev fk s (.str w) s1)(h1:tab.lookup w=some fn)(b:fns.lookup fn=some n)(d:Ev ts s1 as s2)(e:as.length=n)(f:(s2.h.isEmpty || ah as)=true)(hc:Gives (c fn as []) q):Ev (BU fns c (MO (λk=>(List.lookup k tab).map .fn) fk) ts) s q s2:=by
 obtain⟨p,g,e1,i⟩:=hc;refine eB (eB hk (show(lV ((Xf (.str w)).bind λk=>(List.lookup k tab).map PV.fn)) s1=some (.ok (.fn fn),s1)from ?_)) (eB (a:=(fn,n)) ?_ (eB d ?_))
 ·show((List.lookup w tab).map PV.fn).map _=_;rw[h1];rfl
 ·show((fns.lookup fn).map _).map _=_;rw[b];rfl
 ·unfold qb;rw[if_pos ⟨e,f⟩,e1];show(k8 g p).map _=_;rw[i];rfl
def mkN(i:Nat)(a:bW)(h:List aE):eQ h (.aq [.int (i:Int)]) (l8 a)=some (l9 i a):=aT (by simp)
def J1(hN:noRef F=true)(M:NS c F p as)(i:Nat)(af:List PV)(t:af.length<=90000)(d e f:Option PV):Ev (uU c) ⟨[d,e,some F,some (.ref 0),some (.int (i:Int)),some p,f],[⟨.lst,af⟩]⟩ .nx ⟨[d,e,some F,some (.ref 0),some (.int (i:Int)),some p,some (gq as)],[⟨.lst,af++(cR as).map (l9 i)⟩]⟩:=by
 obtain⟨w,fn,b,rfl,g,j,k⟩:=M.ex;have l:=M.few;have m:=M.nr;have o:∀h,bf h (.aq (.str w::b)) (.int 0)=some (.str w):=λh=>(rfl).trans (atI_nat rfl)
 refine sq (aS (clF (b2 rfl rfl (o _)) g j (cA rfl (cA rfl rfl)) rfl (by simp[ah,hN,m]) k) rfl) ?_
 have ho:Ek Qe ⟨[d,e,some F,some (.ref 0),some (.int i),some (.aq (.str w::b)),some (gq as)],[⟨.lst,af⟩]⟩ (gq (cR as)):=by
  cases as with
  | nil=>rfl
  | cons a r=>rfl
 have q:=UI l;exact dS (sx rfl rfl (cA (cM (sV ho rfl) (dn ‹_›) λa _=>e1 rfl (b2 (tU (cA rfl rfl) (by simp)) rfl (mkN i a _))) rfl) (xC rfl rfl (by grind)))
def qo:Nat->List (List bW)->List PV
 | _,[]=>[]
 | i,as::r=>(cR as).map (l9 i)++qo (i+1) r
theorem xO(hN:noRef F=true)(b d:Option PV):∀(L:List (PV×List bW)) (i:Nat) (af:List PV) (f g a:Option PV),(∀q∈L,NS c F q.1 q.2)->af.length+20*L.length<=90000 ->
  ∃j k l,dX (jZ 2 Qb) (uU c) (dG i (L.map (·.1))) ⟨[b,d,some F,some (.ref 0),f,g,a],[⟨.lst,af⟩]⟩=some (.ok .nx,⟨[b,d,some F,some (.ref 0),j,k,l],[⟨.lst,af++qo i (L.map (·.2))⟩]⟩)
 | [],i,af,f,g,a,_,_=>⟨f,g,a,by simp[qo];rfl⟩
 | (p,as)::L,i,af,f,g,a,h,m=>by
  have M:=h (p,as) aO;have o:=UI (as:=as) M.few;simp only[aR]at m;obtain⟨j,k,l,e⟩:=xO hN b d L (i+1) (af++(cR as).map (l9 i)) (some (.int i)) (some p) (some (gq as)) (λq r=>h q (aM _ r)) (by grind)
  refine⟨j,k,l,?_⟩;rw[cC]at e;exact fC rfl (J1 hN M i af (by lia) b d a) e
theorem CU:∀(L:List (List bW)) (i:Nat),∀p∈qo i L,∃j a,p=l9 j a
 | [],i,p,h=>by simp[qo]at h
 | as::L,i,p,h=>by
  rw[qo,bB]at h;rcases h with h | h
  ·grind
  ·exact CU L (i+1) p h
def Yj(L:List (List bW))(i:Nat):ah (qo i L)=true:=by
 have:∀l:List PV,(∀p∈l,noRef p=true)->ah l=true:=λl=>by
  induction l with
  | nil=>intro _;rfl
  | cons p l ih=>intro h;simp[ah,h p aO,ih λq b=>h q (aM _ b)]
 exact this _ λp hp=>by
  obtain⟨j,a,rfl⟩:=CU L i p hp;rfl
def NT{L:List (PV×List bW)}(k:Nat)(c:∀h,bf h P (.int at_)=some F)(hF:F=.aq [a,b,d,e,.aq (L.map (·.1))])(hN:noRef F=true)(f:∀q∈L,NS (run txt k) F q.1 q.2)(i:L.length<=1000):Gives (run txt (k+1) "acts" [P,.int at_] []) (.lst (qo 0 (L.map (·.2)))):=by
 rw[NG];obtain⟨j,l,m,q⟩:=xO hN (some P) (some (.int at_)) L 0 [] none none none f (by simp;lia)
 have g:∀h,bf h F (.int 4)=some (.aq (L.map (·.1))):=λh=>by rw[hF];rfl
 refine⟨_,_,iJ (sq (aS (b2 rfl rfl (c _)) rfl) (sq rfl (sq (fS (sG (eV (b2 rfl rfl (g _)) rfl)) q) (rS rfl)))),?_⟩;exact j7 (Yj _ _)
def vf(hc:h[n]?=some ⟨.lst,ps⟩)(hp:ah ps=true):k8 h (.ref n)=some (.lst ps):=by
 have b:h.isEmpty=false:=by
  cases h with
  | nil=>simp at hc
  | cons a r=>rfl
 unfold k8;rw[b,if_neg bX];unfold we;rw[if_neg (by simp[noRef])]
 show((h[n]?).bind _)=_;rw[hc,dM];rw[if_pos (show live ⟨.lst,ps⟩=true from rfl),HJ ps hp]
 rfl
theorem As:∀t:eJ,ah (t.map toldP)=true
 | []=>rfl
 | q::t=>by
  have:noRef (toldP q)=true:=by
   have h:∀l:List bO,ah (l.map qe++[.int q.2])=true:=λl=>by
    induction l with
    | nil=>rfl
    | cons k l ih=>simp only[aH,List.cons_append,ah,NB,ih,Bool.and_self]
   simpa[toldP,noRef]using h q.1
  simp[ah,this,As t]
def NU(h:Ev fe s p s1)(hp:p=.lst (fk.map cP)\/∃j,p=.ref j/\s1.h[j]?=some ⟨.lst,fk.map cP⟩)
  (hc:c "tell_new"=dJ Cr 5) (a:∀ω n,rs ω n=dJ (X7 c ω n) 5) (hk:∀f∈fk,f.length<1000) (d:fk.length<4000000) (i:gM out uQ 0 (dw [] (-1) fk)=some res)
  (b:∀g fs,out g=some fs->(∀f∈fs,f.length<1000)/\∀af,∃KH,fb ⟨some (cP g)::bJ link s1.ρ,hS (s1.h++[ox]) af⟩=some (.ok (.lst (fs.map cP)),⟨KH,hS (s1.h++[ox]) af⟩)) :
  Ev (Jy rs fe fb link) s (.ref (s1.h.length+1)) ⟨s1.ρ,hS (s1.h++[ox]) res⟩:=by
 refine eB h ?_;have hd:(s1.h++[ox]).length=s1.h.length+1:=by simp
 have r:=SD (ω:=R8 fb (bJ link s1.ρ)) (n:=s1.h.length) hc (λg fs e=>⟨(b g fs e).1,λaf m=>by
  obtain⟨KH,k⟩:=(b g fs e).2 af;show(fb ⟨some (cP g)::bJ link s1.ρ,hS (s1.h++[ox]) af⟩).bind _=_;rw[k];rfl⟩) (hp.imp id (by rintro⟨j,l,o⟩;exact⟨j,l,by grind⟩)) hk d i
 show(rs (R8 fb (bJ link s1.ρ)) s1.h.length [p,.ref s1.h.length] (s1.h++[ox])).map _=_;rw[a,r,hd];rfl
noncomputable def kN(n:Nat):List bO:=[.inl (n:Int)]
def iN(n:Nat):PV:=.int (n:Int)
def nT(l:List Nat):PV:=.aq (l.map iN)
structure Yk (ls:List (List Nat)) (N:Nat):Prop where
 len:ls.length=N
 ok:∀l∈ls,l.length<=2/\∀m∈l,m<N
 pos:0<N
 few:N<128
def Ge(ls:List (List Nat)):List bO->Option (List (List bO))
 | [.inl i]=>if 0<=i then(ls[i.toNat]?).map λl=>l.map kN else none
 | _=>none
def HL(a:ls[n]?=some l):Ge ls (kN n)=some (l.map kN):=by
 show(if 0<=n then(ls[(n:Int).toNat]?).map _ else none)=_
 rw[if_pos (dE _),fu,a];rfl
def NV(h:kN a=kN b):a=b:=by
 unfold kN at h;injection h with h _
 injection h with h
 exact Int.ofNat.inj h
def HM(k:Nat):run txt (k+1) "tell_new"=dJ Cr 5:=Aa k
def NW(k:Nat)(ω:PV->Gx PV)(n:Nat):dJ (XX txt oI (run txt k) ω n) 5=dJ (X7 (run txt k) ω n) 5:=by
 rw[F6];rfl
def NY(H:Yk ls N)(hd:List aE)(g:List bO)(fs:List (List bO))(e:Ge ls g=some fs):(∀f∈fs,f.length<1000)/\∀af,∃KH,Qh ⟨some (cP g)::[some (.lst (ls.map nT))],hS hd af⟩=some (.ok (.lst (fs.map cP)),⟨KH,hS hd af⟩):=by
 unfold Ge at e;split at e
 ·rename_i i;obtain⟨b,e⟩:=bP e;obtain⟨l,a,rfl⟩:=bE e;refine⟨λf c=>?_,λaf=>⟨some (cP [.inl i])::[some (.lst (ls.map nT))],?_⟩⟩
  ·obtain⟨m,_,rfl⟩:=az.mp c;show 1<1000
   lia
  ·have j:=(H.ok l (cK a)).1;have d:∀h,bf h (.lst (ls.map nT)) (.int i)=some (nT l):=λh=>by
    have:=atI_nat (v:=nT l) (by rw[cw,a];rfl)
    rw[mM b]at this;exact this
   have r:=cM (link:=[none,none]) (bd:=kx (aX 1) (kU .aq Q0)) (s:=⟨some (cP [.inl i])::[some (.lst (ls.map nT))],hS hd af⟩) (fi:=gP (op2 bf (rd 1) (op2 bf (rd 0) (kI 0)))) (sV (b2 rfl (b2 rfl rfl rfl) (d _)) rfl) (dn ‹_›) (λm _=>e1 rfl (tU (cA rfl rfl) (show 1<=4000000 by decide)))
   rw[bY];exact r
 ·cases e
def vg(H:Yk ls N):∃(af:eJ) (c:List Nat),(∀k,Gives (run txt (k+2) "arrivals" [.lst (ls.map nT)] []) (.lst (af.map toldP)))/\af.map (·.1)=c.map kN/\c.Nodup/\(∀n∈c,n<N)/\UE (Ge ls) [kN 0] af/\FE (Ge ls) af af.length/\0∈c:=by
 have u:∀g∈(List.range N).map kN,∃fs,Ge ls g=some fs/\(∀f∈fs,f∈(List.range N).map kN)/\fs.length<=2:=λg o=>by
  obtain⟨n,j,rfl⟩:=az.mp o;rw[de]at j;obtain⟨l,p⟩:∃l,ls[n]?=some l:=⟨_,b7 (by rw[H.len];exact j)⟩
  obtain⟨E,v⟩:=H.ok l (cK p);refine⟨_,HL p,λf d=>?_,by grind⟩
  obtain⟨m,w,rfl⟩:=az.mp d;exact az.mpr ⟨m,de.mpr (v m w),rfl⟩
 have q:((List.range N).map kN).length=N:=by simp
 have d:=H.few;obtain⟨af,x,t,I,y,B,C⟩:=ng (Ge ls) [kN 0] ((List.range N).map kN) 2 (by rw[q];show N+2<4000000;lia) (by rw[q];show N<3000000;lia) u (λf d=>by
  rw[aG]at d;subst d;exact az.mpr ⟨0,de.mpr H.pos,rfl⟩)
 have i:∀f∈af.map (·.1),∃n,n<N/\f=kN n:=λf d=>by
  grind
 obtain⟨c,e1,D⟩:∃c:List Nat,af.map (·.1)=c.map kN/\∀n∈c,n<N:=by
  revert i
  generalize af.map (·.1)=fs
  intro i;induction fs with
  | nil=>exact⟨[],rfl,λ_ z=>nomatch z⟩
  | cons f fs ih =>
   obtain⟨n,j,rfl⟩:=i f aO;obtain⟨c,J,L⟩:=ih λg o=>i g (aM _ o)
   exact⟨n::c,by grind⟩
 refine⟨af,c,?_,e1,?_,D,y,B,?_⟩
 ·intro k;rw[Ab];have r:=NU (fe:=kU .lst QF) (link:=[some 0]) (s1:=S0 [some (.lst (ls.map nT))]) rfl (.inl rfl) (HM k) (NW (k+1)) (λf d=>by rw[aG]at d;subst d;decide) (by decide) x (NY H _)
  exact⟨_,_,iJ (rS r),vf (X6) (As af)⟩
 ·rw[e1]at t;exact List.Pairwise.imp (λ{a b} h z=>h (by rw[z])) (List.pairwise_map.mp t)
 ·have:=C (kN 0) (aG.mpr rfl);rw[e1]at this;obtain⟨n,j,e⟩:=az.mp this;rw[<-NV e];exact j
def eN(q:Nat×bW):PV:=l9 q.1 q.2
def iM:Nat->List (List bW)->List (Nat×bW)
 | _,[]=>[]
 | i,as::r=>(cR as).map (λa=>(i,a))++iM (i+1) r
theorem oO:∀(L:List (List bW)) (i:Nat),qo i L=(iM i L).map eN
 | [],_=>rfl
 | as::L,i=>by
  rw[qo,iM,bU,bY,oO L (i+1)];rfl
theorem CV:∀(L:List (List bW)) (i:Nat),∀q∈iM i L,i<=q.1/\q.1<i+L.length
 | [],_,_,h=>nomatch h
 | as::L,i,q,h=>by
  rw[iM,bB]at h;rw[aR];rcases h with h | h
  ·grind
  ·have:=CV L (i+1) q h
   lia
theorem vh:∀(L:List (List bW)) (i j:Nat),i<=j->j<i+L.length->∃a,(j,a)∈iM i L
 | [],_,_,d,c=>by grind
 | as::L,i,j,d,c=>by
  rw[aR]at c;by_cases e:j=i
  ·subst e;obtain⟨a,b⟩:∃a,a∈cR as:=by
    cases as with
    | nil=>exact⟨vc,aO⟩
    | cons a r=>exact⟨a,aO⟩
   exact⟨a,by rw[iM];exact fI _ (az.mpr ⟨a,b,rfl⟩)⟩
  ·obtain⟨a,b⟩:=vh L (i+1) j (by lia) (by lia)
   exact⟨a,by rw[iM];exact dm _ b⟩
noncomputable def eY(kvs:List (bO×PV))(k:bO):Option PV:=(kvs.find? λa=>decide (a.1=k)).map (·.2)
def Zt(N:Nat)(kvs:List (bO×PV)):Prop:=∀q∈kvs,∃m:Nat,q.2=.int (m:Int)/\m<N
def Gf(kvs:List (bO×PV))(k:bO)(p:PV):(eY (kvs++[(k,p)]) k).isSome=true:=by
 unfold eY;rw[D3,List.find?_isSome];exact⟨(k,p),by simp,by simp⟩
def vi(kvs a:List (bO×PV))(k:bO)(h:(eY kvs k).isSome=true):(eY (kvs++a) k).isSome=true:=by
 unfold eY at h ⊢;rw[D3,List.find?_isSome]at h ⊢;obtain⟨x,b,c⟩:=h;exact⟨x,fI _ b,c⟩
def NZ(h:Zt N kvs)(hk:(eY kvs k).isSome=true):∃m:Nat,eY kvs k=some (.int (m:Int))/\m<N:=by
 unfold eY at hk ⊢;cases e:kvs.find? λa=>decide (a.1=k)with
 | none=>rw[e]at hk;cases hk
 | some q =>
  obtain⟨m,b,c⟩:=h q (List.mem_of_find?_eq_some e);exact⟨m,by rw[iw,b],c⟩
def HN:List (Nat×bW)->Nat->List (bO×PV)->List (bO×PV)
 | [],_,a=>a
 | (j,_)::as,i,a=>match eY a (.inl (j:Int))with
  | some _=>HN as (i+1) a
  | none=>HN as (i+1) (a++[(.inl (j:Int),.int (i:Int))])
noncomputable def dC(kvs:List (bO×PV)):aE:=⟨.gU false (kvs.map λq=>[q.1]),kvs.map (·.2)⟩
theorem vj(k:bO):∀kvs:List (bO×PV),g8 [k] (kvs.map λq=>[q.1]) (kvs.map (·.2))=eY kvs k
 | []=>rfl
 | q::kvs=>by
  have ih:=vj k kvs;unfold eY at ih ⊢;rw[aH,aH,g8];by_cases h:q.1=k
  ·grind
  ·grind
theorem HP(k:bO):∀kvs:List (bO×PV),kY [k] (kvs.map λq=>[q.1])=(eY kvs k).isSome
 | []=>rfl
 | q::kvs=>by
  have ih:=HP k kvs;unfold eY kY at ih ⊢;rw[aH,iy];by_cases h:q.1=k
  ·grind
  ·grind
def Yl(c:kvs.length<4000000):∃p,k0 Jm (.ref 0) [.int j,y] ⟨a,dC kvs::r⟩=some (.ok p,⟨a,(match eY kvs (.inl j)with | some _=>dC kvs | none=>dC (kvs++[(.inl j,y)]))::r⟩):=by
 have e:k0 Jm (.ref 0) [.int j,y] ⟨a,dC kvs::r⟩=(if(kvs.map λq=>[q.1]).length<gF then(if kY [.inl j] (kvs.map λq=>[q.1])=true then(g8 [.inl j] (kvs.map λq=>[q.1]) (kvs.map (·.2))).map λp=>(dC kvs,p)else some (⟨.gU false ((kvs.map λq=>[q.1])++[[.inl j]]),kvs.map (·.2)++[y]⟩,y))else none).map λb=>(.ok b.2,⟨a,(dC kvs::r).set 0 b.1⟩):=rfl
 rw[e,if_pos (show(kvs.map λq=>[q.1]).length<gF by rw[aD];exact c),HP,vj]
 cases eY kvs (.inl j)with
 | some v=>exact⟨v,rfl⟩
 | none=>exact⟨y,by simp[dC]⟩
def mtD(h1:Ev b s (.ref n) s1)(hc:s1.h[n]?=some ⟨.gU t ks,ps⟩)(c:Ev ts s1 as s2)(d:w (.ref n) as s2=r):zD "dict" w b ts s=r:=by
 refine eB h1 (eB (a:=()) ?_ (eB c d));show((cO s1.h (.ref n)).bind _).map _=_;have e:cO s1.h (.ref n)=some (.gU t ks,ps):=by
  show(s1.h[n]?).bind _=_;rw[hc];rfl
 rw[e];rfl
theorem lr(c:CT)(P I A:PV):∀(as:List (Nat×bW)) (i:Nat) (kvs:List (bO×PV)) (d f:Option PV),Zt i kvs->kvs.length<=i->i+as.length<=90000 ->
  (∃y B,dX (jZ 2 Qb) (xG c) (dG i (as.map eN)) ⟨[some P,some I,some A,some (.ref 0),d,f,none],[dC kvs]⟩=some (.ok .nx,⟨[some P,some I,some A,some (.ref 0),y,B,none],[dC (HN as i kvs)]⟩))/\Zt (i+as.length) (HN as i kvs)/\(∃g,HN as i kvs=kvs++g)/\∀q∈as,(eY (HN as i kvs) (.inl (q.1:Int))).isSome=true
 | [],i,kvs,d,f,h,_,_=>⟨⟨d,f,rfl⟩,h,⟨[],by simp[HN]⟩,λ_ z=>nomatch z⟩
 | (j,a)::as,i,kvs,d,f,h,J,C=>by
  rw[aR]at C;have x:jZ 2 Qb (qE (.int i) (l9 j a)) ⟨[some P,some I,some A,some (.ref 0),d,f,none],[dC kvs]⟩=some ⟨[some P,some I,some A,some (.ref 0),some (.int i),some (l9 j a),none],[dC kvs]⟩:=rfl;obtain⟨p,hp⟩:=Yl (kvs:=kvs) (by lia)
  have k:Ev (xG c) ⟨[some P,some I,some A,some (.ref 0),some (.int i),some (l9 j a),none],[dC kvs]⟩ .nx ⟨[some P,some I,some A,some (.ref 0),some (.int i),some (l9 j a),none],[match eY kvs (.inl j)with | some _=>dC kvs | none=>dC (kvs++[(.inl j,.int i)])]⟩:=dS (mtD rfl rfl (cA (b2 rfl rfl rfl) (cA rfl rfl)) hp)
  cases e:eY kvs (.inl j)with
  | some v =>
   have o:HN ((j,a)::as) i kvs=HN as (i+1) kvs:=by rw[HN,e]
   rw[e]at k;obtain⟨⟨r,t,u⟩,D,⟨g,l⟩,E⟩:=lr c P I A as (i+1) kvs (some (.int i)) (some (l9 j a)) (λq b=>by obtain⟨m,w,H⟩:=h q b;exact⟨m,w,(fj ‹_›)⟩) (fj ‹_›) (by lia)
   rw[o];refine⟨⟨r,t,fC x k u⟩,?_,⟨g,l⟩,λq b=>?_⟩
   ·grind
   ·rcases aW.mp b with rfl | b
    ·rw[l];exact vi _ _ _ (by rw[e];rfl)
    ·grind
  | none =>
   have o:HN ((j,a)::as) i kvs=HN as (i+1) (kvs++[(.inl j,.int i)]):=by rw[HN,e]
   rw[e]at k;obtain⟨⟨r,t,u⟩,D,⟨g,l⟩,E⟩:=lr c P I A as (i+1) (kvs++[(.inl j,.int i)]) (some (.int i)) (some (l9 j a)) (λq b=>by
    rcases bB.mp b with b | b
    ·obtain⟨m,w,H⟩:=h q b;exact⟨m,w,(fj ‹_›)⟩
    ·rw[aG]at b;subst b;exact⟨i,rfl,(au _)⟩) (by grind) (by lia)
   rw[o];refine⟨⟨r,t,fC x k u⟩,?_,⟨(.inl j,.int i)::g,by grind⟩,λq b=>?_⟩
   ·grind
   ·rcases aW.mp b with rfl | b
    ·rw[l];exact vi _ _ _ (Gf _ _ _)
    ·grind
def Au(c:CT)(rows:PV)(n:Nat)(nx:Nat->List Nat):Prop:=∀j:Nat,j<n->Gives (c "row_nexts" [rows,.int (j:Int)] []) (nT (nx j))/\(nx j).length<=2/\∀m∈nx j,m<n
def vk(kvs:List (bO×PV))(m:Nat):Nat:=match eY kvs (.inl (m:Int))with
 | some (.int v)=>v.toNat
 | _=>0
def CW(h:Zt N kvs){m:Nat} (hk:(eY kvs (.inl (m:Int))).isSome=true):eY kvs (.inl (m:Int))=some (.int (vk kvs m:Int))/\vk kvs m<N:=by
 obtain⟨v,a,b⟩:=NZ h hk;have e:vk kvs m=v:=by unfold vk;rw[a];rfl
 rw[e];exact⟨a,b⟩
def rP(as:List (Nat×bW))(kvs:List (bO×PV))(nx:Nat->List Nat)(i:Nat)(q:Nat×bW):List Nat:=if as[i+1]?.map (·.1)=some q.1 then [i+1]else(nx q.1).map (vk kvs)
def O0(as:List (Nat×bW))(kvs:List (bO×PV))(nx:Nat->List Nat):Nat->List (Nat×bW)->List (List Nat)
 | _,[]=>[]
 | i,q::bs=>rP as kvs nx i q::O0 as kvs nx (i+1) bs
def lu(h:List aE)(i j:Int):jG h (.int i) (.int j)=some (.bl (i==j)):=rfl
theorem sF:∀l:List Nat,ah (l.map iN)=true
 | []=>rfl
 | n::l=>by simp[ah,iN,noRef,sF l]
section
variable {c:CT} {fs:List PV} {I:Int} {nm res rows:PV} {R1 R2:List Rk} {n:Nat} {as:List (Nat×bW)} {kvs:List (bO×PV)} {nx:Nat->List Nat}
def Gg(t:L2.mX fs I=some (DK nm res rows R1 R2))(hN:noRef rows=true)(hR:Au c rows n nx)(hk:Zt as.length kvs) (k:∀j:Nat,j<n->(eY kvs (.inl (j:Int))).isSome=true) (D:as.length<=90000)
  (i:Nat) (q:Nat×bW) (l:as[i]?=some q) (hr:∀q∈as,q.1<n) (af:List PV) (ht:af.length<=90000) :
  Ev (qi c) ⟨[some (.aq fs),some (.int I),some (.lst (as.map eN)),some (.ref 0),some (.int (i:Int)),some (eN q),some (.ref 1)],[dC kvs,⟨.lst,af⟩]⟩ .nx ⟨[some (.aq fs),some (.int I),some (.lst (as.map eN)),some (.ref 0),some (.int (i:Int)),some (eN q),some (.ref 1)],[dC kvs,⟨.lst,af++[nT (rP as kvs nx i q)]⟩]⟩/\(rP as kvs nx i q).length<=2/\∀m∈rP as kvs nx i q,m<as.length:=by
 have E:=(cS.mp l).1;obtain⟨s,a⟩:=nw (⟨[some (.aq fs),some (.int I),some (.lst (as.map eN)),some (.ref 0),some (.int i),some (eN q),some (.ref 1)],[dC kvs,⟨.lst,af⟩]⟩:dB);rw[<-a];have e:Ev QD s (decide ((i+1)<(as.length:Int))) s:=by
  rw[a];refine bT (b2 (y:=.int (as.length:Int)) rfl (bV (cA rfl rfl) ?_) rfl);show some (PV.int (((as.map eN).length:Nat):Int))=_;rw[aD]
 have go:∀b:Bool,Ev (dk QD (toB (op2 jG (op2 bf (op2 bf (rd 2) (op2 eQ (rd 4) (kI 1))) (kI 0)) Qt)) (aV false)) s b s->(b=true↔as[i+1]?.map (·.1)=some q.1) ->
   Ev (qi c) s .nx ⟨[some (.aq fs),some (.int I),some (.lst (as.map eN)),some (.ref 0),some (.int i),some (eN q),some (.ref 1)],[dC kvs,⟨.lst,af++[nT (rP as kvs nx i q)]⟩]⟩/\(rP as kvs nx i q).length<=2/\∀m∈rP as kvs nx i q,m<as.length:=λb o p=>by
  cases b with
  | true =>
   have u:=p.mp rfl;have H:i+1<as.length:=by
    grind
   have f:rP as kvs nx i q=[i+1]:=if_pos u;rw[f];refine⟨iT o ?_,by grind⟩
   rw[a];exact dS (sx rfl rfl (cA (tU (cA (b2 rfl rfl rfl) rfl) (by simp)) rfl) (aC rfl (by lia)))
  | false =>
   obtain⟨v,J,r⟩:=hR q.1 (hr q (cK l));have f:rP as kvs nx i q=(nx q.1).map (vk kvs):=if_neg λz=>nomatch p.mpr z
   rw[f];refine⟨iF o ?_,by grind,λm g=>?_⟩
   ·rw[a];have w:∀h,bf h (.aq fs) (.int I)=some (DK nm res rows R1 R2):=λh=>t
    refine dS (sx rfl rfl (cA (bV (cA (cM (G:=λm=>iN (vk kvs m)) (sV (cb (cA (b2 (b2 rfl rfl (w _)) rfl rfl) (cA (b2 rfl rfl rfl) rfl)) rfl (by simp[ah,hN,noRef]) v) rfl) (dn ‹_›) λm g=>?_) rfl) ?_) rfl) (aC rfl (by lia)))
    ·refine e1 rfl (b2 rfl rfl ?_);show g8 [.inl m] (kvs.map λq=>[q.1]) (kvs.map (·.2))=_
     rw[vj];exact(CW hk (k m (r m g))).1
    ·unfold nT;rw[bY];rfl
   ·obtain⟨x,B,rfl⟩:=az.mp g;exact(CW hk (k x (r x B))).2
 by_cases h:i+1<as.length
 ·obtain⟨d,L⟩:∃d,as[i+1]?=some d:=⟨_,b7 h⟩
  refine go ((d.1:Int)==(q.1:Int)) ?_ (by grind)
  rw[dq (by lia)]at e
  refine iT e ?_;rw[a];have C:∀h,bf h (.lst (as.map eN)) (.int ((i:Int)+1))=some (eN d):=λh=>atI_nat (xs:=as.map eN) (j:=i+1) (by grind)
  exact bT (b2 (x:=.int (d.1:Int)) (y:=.int (q.1:Int)) (b2 (b2 rfl (b2 rfl rfl rfl) (C _)) rfl rfl) (b2 rfl rfl rfl) (lu _ _ _))
 ·refine go false ?_ ⟨(λz=>nomatch z),λz=>by grind⟩
  rw[iu (by lia)]at e
  exact iF e rfl
theorem vm(g:L2.mX fs I=some (DK nm res rows R1 R2))(hN:noRef rows=true)(hR:Au c rows n nx)(hk:Zt as.length kvs) (i:∀j:Nat,j<n->(eY kvs (.inl (j:Int))).isSome=true) (r:as.length<=40000) (hr:∀q∈as,q.1<n):∀(bs a:List (Nat×bW)) (af:List PV) (b d:Option PV),as=a++bs->af.length=a.length ->
  ∃(t u:Option PV),dX (jZ 2 Qb) (qi c) (dG a.length (bs.map eN)) ⟨[some (.aq fs),some (.int I),some (.lst (as.map eN)),some (.ref 0),b,d,some (.ref 1)],[dC kvs,⟨.lst,af⟩]⟩=some (.ok .nx,⟨[some (.aq fs),some (.int I),some (.lst (as.map eN)),some (.ref 0),t,u,some (.ref 1)],[dC kvs,⟨.lst,af++(O0 as kvs nx a.length bs).map nT⟩]⟩)/\(O0 as kvs nx a.length bs).length=bs.length/\∀l∈O0 as kvs nx a.length bs,l.length<=2/\∀m∈l,m<as.length
 | [],a,af,b,d,_,_=>⟨b,d,by simp[O0];rfl,rfl,λ_ z=>nomatch z⟩
 | q::bs,a,af,b,d,e,ht=>by
  have E:a.length<=as.length:=by rw[e,bK];lia
  have v:as[a.length]?=some q:=by rw[e];simp
  obtain⟨w,y,B⟩:=Gg g hN hR hk i (by lia) a.length q v hr af (by lia)
  obtain⟨C,D,k,o,p⟩:=vm g hN hR hk i r hr bs (a++[q]) (af++[nT (rP as kvs nx a.length q)]) (some (.int (a.length:Int))) (some (eN q)) (by rw[e];simp) (by simp[ht])
  rw[show(a++[q]).length=a.length+1 by simp]at k o p
  refine⟨C,D,?_,by simp[O0,o],λx f=>?_⟩
  ·rw[aH,dG,O0,aH,show af++nT (rP as kvs nx a.length q)::(O0 as kvs nx (a.length+1) bs).map nT=af++[nT (rP as kvs nx a.length q)]++(O0 as kvs nx (a.length+1) bs).map nT by simp]
   exact fC rfl w k
  ·rcases aW.mp f with rfl | f
   ·exact⟨y,B⟩
   ·exact p x f
end
def sH(L:List (List bW))(nx:Nat->List Nat):List (List Nat):=O0 (iM 0 L) (HN (iM 0 L) 0 []) nx 0 (iM 0 L)
theorem Gh:∀l:List (List Nat),ah (l.map nT)=true
 | []=>rfl
 | a::l=>by simp[ah,nT,noRef,sF,Gh l]
def HQ(k:Nat){R1 R2:List Rk}(e:L2.mX fs I=some (DK nm res rows R1 R2))(hN:noRef rows=true)(b:Gives (run txt k "acts" [.aq fs,.int I] []) (.lst (qo 0 L)))(hR:Au (run txt k) rows L.length nx)(f:(iM 0 L).length<=40000) :
  Gives (run txt (k+1) "nexts" [.aq fs,.int I] []) (.lst ((sH L nx).map nT))/\(sH L nx).length=(iM 0 L).length/\∀l∈sH L nx,l.length<=2/\∀m∈l,m<(iM 0 L).length:=by
 rw[oO]at b;obtain⟨⟨g,i,o⟩,c,-,p⟩:=lr (run txt k) (.aq fs) (.int I) (.lst ((iM 0 L).map eN)) (iM 0 L) 0 [] none none (λ_ z=>nomatch z) (by simp) (by lia)
 rw[dZ]at c;obtain⟨w,x,d,r,t⟩:=vm e hN hR c (λj y=>by
  obtain⟨a,u⟩:=vh L 0 j (dE _) (dn ‹_›);exact p _ u) f (λq v=>by have:=CV L 0 q v;lia) (iM 0 L) [] [] g i rfl rfl
 refine⟨?_,r,t⟩;rw[JQ];rw[f9]at d;refine⟨_,_,iJ (sq (aS (cb (cA rfl (cA rfl rfl)) rfl rfl b) rfl) (sq rfl (sq (fS (sG (eV rfl rfl)) o) (sq rfl (sq (fS (sG (eV rfl rfl)) d) (rS rfl)))))),?_⟩;exact vf rfl (Gh _)
structure UK (n j:Nat) (p:PV):Prop where
 ok:∃s,(∀h,bf h p (.int 0)=some (.str s))/\((s==(Str.ofString "go"))=true->∃m:Nat,(∀h,bf h p (.int 1)=some (iN m))/\m<n)/\((s==(Str.ofString "if"))=true->∃m:Nat,(∀h,bf h p (.int 3)=some (iN m))/\m<n)/\((s==(Str.ofString "give"))=false->(s==(Str.ofString "go"))=false->j+1<n)
def two(a b:Int):List Int:=if b<a then [b,a]else if a<b then [a,b]else [a]
def N0(a b:Int):iX (qc (λi=>[a,b].getD i 0) 2)=two a b:=by
 have e:qc (λi=>[a,b].getD i 0) 2=if b=a then [a]else [a,b]:=by
  show mv (mv [] a) b=_;unfold mv;by_cases h:b=a
  ·simp[h]
  ·simp[h]
 rw[e];unfold two;by_cases c:b<a
 ·rw[if_pos c,if_neg (by lia)]
  show(if a<=b then [a,b]else [b,a])=_
  rw[if_neg (by lia)]
 ·rw[if_neg c];by_cases d:a<b
  ·rw[if_pos d,if_neg (by lia)]
   show(if a<=b then [a,b]else [b,a])=_
   rw[if_pos (by lia)]
  ·rw[if_neg d,if_pos (by lia)]
   rfl
noncomputable def CY(a b:Nat):List Nat:=if b<a then [b,a]else if a<b then [a,b]else [a]
def acn(a b:Nat):two (a:Int) (b:Int)=(CY a b).map λn:Nat=>(n:Int):=by
 unfold two CY;by_cases c:b<a
 ·grind
 ·grind
def cell(a:List Int)(i:Nat):Int:=a.getD i 0
def N1(k:Nat)(a:List Int)(i:Nat):Gives (run txt (k+1) "_law_cell_at" [JH a,.int (i:Int)] []) (.int (cell a i)):=by
 rw[Af];have t:Ek (toB (op2 Mh (rd 1) (gI gA Qu))) (S0 [some (JH a),some (.int (i:Int))]) (decide ((i:Int)<(a.length:Int))):=bT (b2 rfl (bV (cA rfl rfl) (by
  show some (PV.int (((a.map PV.int).length:Nat):Int))=_;rw[aD])) rfl)
 by_cases h:i<a.length
 ·rw[dq (by lia)]at t
  have b:∀h,bf h (JH a) (.int i)=some (.int (cell a i)):=λ_=>atI_nat (by rw[cw,b7 h];simp[cell,h])
  exact gV (o9 (iT t (rS (b2 rfl rfl (b _))))) rfl
 ·rw[iu (by lia)]at t
  have:cell a i=0:=by simp[cell,List.getD,pj (pG h)]
  rw[this];exact gV (sq (iF t rfl) (rS rfl)) rfl
def du(a:0<j):gX h (.int i) (.int j)=some (.int (i%j)):=if_pos (dq a)
def Av(a:0<j/\j<1073741824):jF h (.int i) (.int j)=some (.int (i/j)):=if_pos (dq a)
def CZ(a:(-G0<i/\i<G0)\/(-G0<j/\j<G0)):v9 h (.int i) (.int j)=some (.int (i*j)):=if_pos (dq a)
noncomputable def mxA:Nat->Int×Int
 | 0=>(48271,2147483647)
 | 1=>(69621,998244353)
 | 2=>(40692,1000000007)
 | _=>(16807,2147483629)
def J2(c:Int)(i:Nat):Int:=(c%1000000000039+(i:Int))*(mxA i).1%(mxA i).2
def oQ(k:Nat)(c:Int){i:Nat}(b:i<4):Gives (run txt (k+1) "_law_mixed" [.int c,.int (i:Int)] []) (.int (J2 c i)):=by
 rw[FH];have a:∀h,gX h (.int c) (.int 1000000000039)=some (.int (c%1000000000039)):=λ_=>du (by decide)
 match i,b with
 | 0,_=>exact gV (sq (aS rfl rfl) (rS (b2 (b2 (b2 (b2 rfl rfl (a _)) rfl rfl) rfl (CZ (.inr (by decide)))) rfl (du (by decide))))) rfl
 | 1,_=>exact gV (sq (aS rfl rfl) (rS (b2 (b2 (b2 (b2 rfl rfl (a _)) rfl rfl) rfl (CZ (.inr (by decide)))) rfl (du (by decide))))) rfl
 | 2,_=>exact gV (sq (aS rfl rfl) (rS (b2 (b2 (b2 (b2 rfl rfl (a _)) rfl rfl) rfl (CZ (.inr (by decide)))) rfl (du (by decide))))) rfl
 | 3,_=>exact gV (sq (aS rfl rfl) (rS (b2 (b2 (b2 (b2 rfl rfl (a _)) rfl rfl) rfl (CZ (.inr (by decide)))) rfl (du (by decide))))) rfl
 | n+4,h=>lia
noncomputable def cp(n:Int):Nat:=97+(n%26).toNat
def lt(n:Int):Str:=⟨#[cp n]⟩
def fU(l:List Nat):Str:=⟨l.toArray⟩
def xP(h:fU a=fU b):a=b:=by
 have:a.toArray=b.toArray:=dO Str.cps h;simpa using this
def Gi(a b:List Nat):fU a++fU b=fU (a++b):=by
 show Str.append _ _=_;unfold Str.append fU;simp
def aco(n:Int):lt n=fU [cp n]:=rfl
def HR:(Str.ofString "")=fU []:=by decide +kernel
def HS(l:List Nat):(fU l).length=l.length:=by
 unfold fU Str.length;simp
def Gj:∀m:Fin 26,L2.mX (Str.ofString "abcdefghijklmnopqrstuvwxyz").cps.toList ((m:Nat):Int)=some (97+(m:Nat)):=by decide +kernel
def J3(h:List aE)(n:Int):bf h (.str "abcdefghijklmnopqrstuvwxyz") (.int (n%26))=some (.str (lt n)):=by
 have b:=mP n (show 26≠0 by decide)
 have d:=yk n (show 0<26 by decide)
 obtain⟨m,a⟩:=DS b;have:=Gj ⟨m,by lia⟩
 show(if(Str.ofString "abcdefghijklmnopqrstuvwxyz").length<=gF then(L2.mX (Str.ofString "abcdefghijklmnopqrstuvwxyz").cps.toList (n%26)).map λc=>PV.str ⟨#[c]⟩else none)=_
 rw[if_pos (by decide +kernel),a,this]
 show some (PV.str ⟨#[97+m]⟩)=some (PV.str ⟨#[cp n]⟩);unfold cp;rw[a,fu]
def Ym(h:cp a=cp b):a%26=b%26:=by
 unfold cp at h;have c:=mP a (show 26≠0 by decide)
 have d:=mP b (show 26≠0 by decide)
 lia
abbrev abc:PV:=.str "abcdefghijklmnopqrstuvwxyz"
def Yn(B:List Int)(pl q i:Nat):Nat:=cp (B.getD i 0+(q:Int)*(if i=pl then 1 else 0))
def HU(B:List Int)(pl q:Nat):Str:=fU ((List.range B.length).map (Yn B pl q))
def lO(i:Nat):PV:=.int (0+(i:Int))
def kn(h:Ev ts s [iN j] s1)(a:j<=4000000):Ev (He (wc uG ts)) s (.sq ((List.range j).map lO)) s1:=by
 refine sG (eB h ?_);show Option.map _ (if W7 0 j=true then some (RU 0 (j:Int).toNat)else none)=_
 rw[if_pos (by unfold W7;rw[jP];lia),fu]
 rfl
section
variable (c:CT) (x0 x1:Option PV) (B:List Int) (pl q:Nat)
def nS(x0 x1:Option PV)(B:List Int)(pl:Nat)(a b d:Option PV)(F:List PV):dB:=⟨[x0,x1,some abc,some (iN B.length),some (iN pl),a,some (.lst (B.map .int)),some (.ref 0),b,d],[⟨.lst,F⟩]⟩
def C4(F:List PV)(i:Nat)(d:i<B.length)(N:List Nat)(hN:N.length<=100)(l:q<=100):Ev (uY c) (nS x0 x1 B pl (some (lO i)) (some (lO q)) (some (.str (fU N))) F) .nx (nS x0 x1 B pl (some (lO i)) (some (lO q)) (some (.str (fU (N++[Yn B pl q i])))) F):=by
 have b:∀j:Nat,lO j=iN j:=λj=>by unfold lO iN;rw[kK]
 rw[b,b];have f:∀h,bf h (.lst (B.map PV.int)) (.int i)=some (.int (B.getD i 0)):=λ_=>atI_nat (by rw[cw,K1,b7 d];rfl)
 have he:∀h,Jb h [.bl (i==(pl:Int))]=some (.int (if i=pl then 1 else 0)):=λh=>by
  by_cases a:i=pl
  ·rw[if_pos a,a,tx];rfl
  ·rw[if_neg a,show(i==(pl:Int))=false by rw[kC];lia];rfl
 have g:∀h,v9 h (.int q) (.int (if i=pl then 1 else 0))=some (.int (q*(if i=pl then 1 else 0))):=λh=>CZ (.inr (by split<;>decide))
 have k:∀h,eQ h (.str (fU N)) (.str (lt (B.getD i 0+q*(if i=pl then 1 else 0))))=some (.str (fU (N++[Yn B pl q i]))):=λh=>by
  have e:eQ h (.str (fU N)) (.str (lt (B.getD i 0+q*(if i=pl then 1 else 0))))=sizeOk ((fU N).length+(lt (B.getD i 0+q*(if i=pl then 1 else 0))).length) (.str (fU N++lt (B.getD i 0+q*(if i=pl then 1 else 0)))):=rfl
  rw[e,aco,Gi,HS,HS];exact if_pos (show N.length+1<=gF by have:gF=4000000:=rfl;lia)
 exact aS (b2 rfl (b2 rfl (b2 (b2 (b2 rfl rfl (f _)) (b2 rfl (bV (cA (b2 rfl rfl (lu _ _ _)) rfl) (he _)) (g _)) rfl) rfl (du (by decide))) (J3 _ _)) (k _)) rfl
theorem qU(F:List PV)(g:q<=100):∀(b a:List Nat) (d:Option PV),List.range B.length=a++b->B.length<=50->∃f,dX (aX 5) (uY c) (b.map lO) (nS x0 x1 B pl d (some (lO q)) (some (.str (fU (a.map (Yn B pl q))))) F)=some (.ok .nx,nS x0 x1 B pl f (some (lO q)) (some (.str (HU B pl q))) F)
 | [],a,d,e,_=>⟨d,by unfold HU;rw[e,dc];rfl⟩
 | i::b,a,d,e,j=>by
  have k:i<B.length:=de.mp (by grind)
  have hp:a.length<=B.length:=by
   have:=dO List.length e;rw[dY,bK]at this
   lia
  have l:=C4 c x0 x1 B pl q F i k (a.map (Yn B pl q)) (by grind) g
  obtain⟨f,h⟩:=qU F g b (a++[i]) (some (lO i)) (by grind) j
  rw[bU]at h;exact⟨f,fC rfl l h⟩
def J4(F:List PV)(hF:F.length<=100)(d:q<=100)(e:B.length<=50)(a f:Option PV):∃b,Ev (uZ c) (nS x0 x1 B pl a (some (lO q)) f F) .nx (nS x0 x1 B pl b (some (lO q)) (some (.str (HU B pl q))) (F++[.str (HU B pl q)])):=by
 obtain⟨b,h⟩:=qU c x0 x1 B pl q F d (List.range B.length) [] a rfl e;refine⟨b,sq (s1:=nS x0 x1 B pl a (some (lO q)) (some (.str (fU []))) F) (by rw[<-HR];rfl) (sq (fS (kn rfl (dn ‹_›)) h) (dS (sx rfl rfl (cA rfl rfl) (aC rfl (by lia)))))⟩
end
theorem vn(c:CT)(e f:Option PV)(B:List Int)(pl:Nat)(k:B.length<=50):∀(a:List Nat) (F:List PV) (b g d:Option PV),(∀q∈a,q<=100)->F.length+a.length<=100->∃m i j,dX (aX 8) (uZ c) (a.map lO) (nS e f B pl b g d F)=some (.ok .nx,nS e f B pl m i j (F++a.map λq=>.str (HU B pl q)))
 | [],F,b,g,d,_,_=>⟨b,g,d,by simp;rfl⟩
 | q::a,F,b,g,d,l,o=>by
  rw[aR]at o;obtain⟨p,h⟩:=J4 c e f B pl q F (by lia) (l q aO) k b d
  obtain⟨t,u,v,w⟩:=vn c e f B pl k a (F++[.str (HU B pl q)]) p (some (lO q)) (some (.str (HU B pl q))) (λr hr=>l r (aM _ hr)) (by simp;lia)
  refine⟨t,u,v,?_⟩;rw[aH,aH,show F++PV.str (HU B pl q)::a.map (λq=>PV.str (HU B pl q))=F++[PV.str (HU B pl q)]++a.map (λq=>PV.str (HU B pl q)) by simp]
  exact fC rfl h w
def SM(hp:pl<B.length)(h1:q<26)(c:b<26)(h:HU B pl q=HU B pl b):q=b:=by
 have h:=xP h;have a:∀q:Nat,((List.range B.length).map (Yn B pl q))[pl]?=some (cp (B.getD pl 0+q)):=λq=>by
  rw[cw,sZ hp];simp[Yn]
 have e:=dO (λl=>l[pl]?) h
 simp only[a]at e;have:=Ym (cL e)
 lia
noncomputable def DM(C:Int):Nat:=(1+C%8).toNat
def SN(C:Int):List Int:=(List.range (DM C)).map fun(i:Nat)=>(C/(64+9*(i:Int)*i)+5*(i:Int))%26
def SO(C:Int):Nat:=(C/8%(DM C:Int)).toNat
def sJ(C:Int):(SN C).length=DM C:=by simp[SN]
def Aw(C:Int):1<=DM C/\DM C<=8/\(DM C:Int)=1+C%8:=by unfold DM;lia
def N2(C:Int):SO C<(SN C).length/\(SO C:Int)=C/8%(DM C:Int):=by
 have h:=Aw C;have a:=mP (C/8) (show(DM C:Int)≠0 by lia)
 have b:=yk (C/8) (show 0<(DM C:Int) by lia)
 rw[sJ];unfold SO
 lia
def jM(C:Int)(q:Nat):Str:=HU (SN C) (SO C) q
def HV(h1:q<26)(b:a<26)(h:jM C q=jM C a):q=a:=SM (N2 C).1 h1 b h
def N3(C:Int)(q:Nat):(jM C q==(Str.ofString ""))=false:=by
 rw[HR,kC];intro h;have:=dO List.length (xP h);rw[aD,dY,sJ]at this;have:=Aw C;simp at *
 lia
def J5(C:Int)(c d e f g j k l:Option PV):Ek (cY false [none,none,some 0] (He (wc uG Qw)) (kx (aX 1) (op2 gX (op2 eQ (op2 jF (rd 2) (op2 eQ (kI 64) (op2 v9 (op2 v9 (kI 9) (rd 1)) (rd 1)))) (op2 v9 (kI 5) (rd 1))) (kI 26)))) (S0 [some (.int C),c,d,some (iN (DM C)),e,f,g,j,k,l]) (.lst ((SN C).map .int)):=by
 have t:=Aw C;unfold SN;rw[bY];refine cM (kn (cA rfl rfl) (by lia)) (by grind) λi b=>?_
 have b:=de.mp b;have m:i<=7:=by lia
 have o:lO i=iN i:=by unfold lO iN;rw[kK]
 rw[o];have u:G0=18446744073709551616\/1000<G0:=by right;decide
 have p:∀h,v9 h (.int 9) (.int i)=some (.int (9*i)):=λ_=>CZ (.inl (by decide))
 have q:0<=9*(i:Int)*i/\9*(i:Int)*i<=441:=by
  have:i=0\/i=1\/i=2\/i=3\/i=4\/i=5\/i=6\/i=7:=by lia
  rcases this with rfl | rfl | rfl | rfl | rfl | rfl | rfl | rfl<;>simp
 have a:∀h,v9 h (.int (9*i)) (.int i)=some (.int (9*i*i)):=λ_=>CZ (.inr (by
  grind))
 have r:∀h,v9 h (.int 5) (.int i)=some (.int (5*i)):=λ_=>CZ (.inl (by decide))
 exact e1 rfl (b2 (b2 (b2 rfl (b2 rfl (b2 (b2 rfl rfl (p _)) rfl (a _)) rfl) (Av (by lia))) (b2 rfl rfl (r _)) rfl) rfl (du (by decide)))
def nmL(C:Int)(n:Nat):List PV:=(List.range n).map λq=>.str (jM C q)
theorem gw(f:α->Str):∀l:List α,ah (l.map λa=>PV.str (f a))=true
 | []=>rfl
 | _::l=>by rw[aH];simp[ah,noRef,gw f l]
def SQ(k:Nat)(C:Int)(n:Nat)(d:n<=26):Gives (run txt (k+1) "_law_names" [.int C,iN n] []) (.lst (nmL C n)):=by
 have a:=Aw C;have hp:=N2 C;rw[FI];obtain⟨f,g,i,h⟩:=vn (run txt k) (some (.int C)) (some (iN n)) (SN C) (SO C) (by rw[sJ];lia) (List.range n) [] none none none (λq j=>by grind) (by simp;lia)
 rw[f9]at h;have b:Ev (dh (op2 gX (op2 jF (rd 0) (kI 8)) (rd 3)) (aX 4)) (S0 [some (.int C),some (iN n),some abc,some (iN (DM C)),none,none,none,none,none,none]) .nx (S0 [some (.int C),some (iN n),some abc,some (iN (DM C)),some (iN (SO C)),none,none,none,none,none]):=by
  have e:iN (SO C)=.int (C/8%(DM C:Int)):=by unfold iN;rw[hp.2]
  rw[e];exact aS (b2 (b2 rfl rfl (Av (by decide))) rfl (du (by lia))) rfl
 have c:nS (some (.int C)) (some (iN n)) (SN C) (SO C) none none none []=⟨[some (.int C),some (iN n),some abc,some (iN (DM C)),some (iN (SO C)),none,some (.lst ((SN C).map .int)),some (.ref 0),none,none],[⟨.lst,[]⟩]⟩:=by unfold nS;rw[sJ]
 rw[c]at h;refine⟨.ref 0,[⟨.lst,nmL C n⟩],?_,j7 (gw _ _)⟩;refine iJ (sq rfl (sq (by
  have e:iN (DM C)=.int (1+C%8):=by unfold iN;rw[a.2.2]
  rw[e];exact aS (b2 rfl (b2 rfl rfl (du (by decide))) rfl) rfl) (sq b (sq (aS (J5 C _ _ _ _ _ _ _ _) rfl) (sq rfl (sq (fS (kn (cA rfl rfl) (dn ‹_›)) h) (rS rfl)))))))
noncomputable def jv(c:Int):Sh:=match(c%7).toNat with
 | 0=>.bH [.num,.num]
 | 1=>.own
 | 2=>.bN (1+c/7%8)
 | 3=>.num
 | 4=>.bH [.num,.own]
 | 5=>.bH [.bN (1+c/7%8),.own]
 | _=>.bH [.bH [.num,.num],.bN (1+c/7%8)]
def SR(k:Nat)(c:Int):Gives (run txt (k+1) "_law_shape" [.int c] []) (enc (jv c)):=by
 rw[FJ];obtain⟨n,a⟩:=nw (1+c/7%8);have b:Ev (dh (kU .aq (aj (kS "strip") (aj (op2 eQ (kI 1) (op2 gX (op2 jF (rd 0) (kI 7)) (kI 8))) (aV [])))) (aX 1)) (S0 [some (.int c),none,none,none]) .nx (S0 [some (.int c),some (enc (.bN n)),none,none]):=by
  rw[a];exact aS (tU (cA rfl (cA (b2 rfl (b2 (b2 rfl rfl (Av (by decide))) rfl (du (by decide))) rfl) rfl)) (by simp)) rfl
 have d:∀h,bf h (.lst (cj [.bH [.num,.num],.own,.bN n,.num,.bH [.num,.own],.bH [.bN n,.own]]++cj [.bH [.bH [.num,.num],.bN n]])) (.int (c%7))=some (enc (jv c)):=λh=>by
  have:c%7=0\/c%7=1\/c%7=2\/c%7=3\/c%7=4\/c%7=5\/c%7=6:=by lia
  unfold jv;rcases this with h | h | h | h | h | h | h<;>rw[h,a]<;>rfl
 exact gV (sq b (sq rfl (sq rfl (rS (b2 (b2 rfl rfl (aL (by simp[cj]))) (b2 rfl rfl (du (by decide))) (d _)))))) (dH _)
def me(r:Rw):PV:=.aq [.aq (r.1.map .int),enc r.2.2.2]
theorem vo:∀l:List Int,ah (l.map PV.int)=true
 | []=>rfl
 | _::l=>by rw[aH];simp[ah,noRef,vo l]
def acp(r:Rw):noRef (me r)=true:=by simp[me,noRef,ah,vo,dH]
theorem UL:∀l:List Rw,ah (l.map me)=true
 | []=>rfl
 | r::l=>by rw[aH];simp[ah,acp,UL l]
def C5(i:Nat)(a:Int)(s:Sh)(r:List Sh):tabs i a (s::r)=(tab s).map (qK i a)++tabs (i+1) (a+sz s) r:=rfl
theorem vp(c:CT)(S:Option PV):∀(b:List Sh) (i:Nat) (acc:List Rw) (a:Int) (d f:Option PV),(∀s∈b,Gives (c "_law_parts" [enc s] []) (.lst ((tab s).map me)))->acc.length+jt b<=1000 ->
  ∃g j,dX QQ (FK c) (dG i (cj b)) (S0 [S,some (.lst (acc.map me)),d,f])=some (.ok .nx,S0 [S,some (.lst ((acc++tabs i a b).map me)),g,j])
 | [],i,acc,a,d,f,_,_=>⟨d,f,by simp[cj,dG,tabs];rfl⟩
 | s::b,i,acc,a,d,f,h,k=>by
  have l:=h s aO;simp only[jt]at k;obtain⟨g,j,e⟩:=vp c S b (i+1) (acc++(tab s).map (qK i a)) (a+sz s) (some (.int i)) (some (enc s)) (λs m=>h s (aM _ m)) (by grind)
  refine⟨g,j,?_⟩;rw[C5,<-cC];have hp:∀r∈tab s,r.1.length<=1000:=λr hr=>by have:=HB s r hr;have:=UC s;lia
  exact fC rfl (by
   rw[bU,bY];refine aS (b2 rfl (cM (sV (cb rfl rfl rfl l) rfl) (by lia) λr hr=>?_) (aL (by simp only[aD];lia))) rfl
   have o:=hp r hr;exact e1 rfl (tU (cA (b2 rfl rfl (aT (by simp only[aR,tF,aD];lia))) (cA rfl rfl)) (by simp))) e
def N4(h:List aE)(s:Sh):jG h (.str (Zq s)) (.str "rec")=some (.bl (!jr s)):=by cases s<;>rfl
def qV(s:Sh)(c a b:Option PV):Ev (dh (kU .lst (aj (kU .aq (aj (kU .aq (aV [])) Qu)) (aV []))) (aX 1)) (S0 [some (enc s),c,a,b]) .nx (S0 [some (enc s),some (.lst [me ([],0,sz s,s)]),a,b]):=rfl
def ni(k:Nat)(h:jr s=true):Gives (run txt (k+1) "_law_parts" [enc s] []) (.lst ((tab s).map me)):=by
 rw[u0];have he:=N4 [] s;rw[h]at he;rw[Nx h];exact gV (sq (qV s none none none) (sq (iF (bT (b2 (b2 rfl rfl (qR _ s)) rfl he)) rfl) (rS rfl))) (by simp[noRef,ah,acp])
def J6(k:Nat) (h:∀s∈ps,Gives (run txt k "_law_parts" [enc s] []) (.lst ((tab s).map me))) (a:jt ps<=900):Gives (run txt (k+1) "_law_parts" [enc (.bH ps)] []) (.lst ((tab (.bH ps)).map me)):=by
 rw[u0];have he:=N4 [] (.bH ps);obtain⟨b,c,e⟩:=vp (run txt k) (some (enc (.bH ps))) ps 0 [([],0,sz (.bH ps),.bH ps)] 0 none none h (by simp;lia)
 have ht:tab (.bH ps)=[([],0,sz (.bH ps),.bH ps)]++tabs 0 0 ps:=by simp[tab,sz,lv]
 rw[ht];exact gV (sq (qV (.bH ps) none none none) (sq (iT (bT (b2 (b2 rfl rfl (qR _ (.bH ps))) rfl he)) (fS (sG (eV (b2 rfl rfl (by simp only[enc];rfl)) rfl)) e)) (rS rfl))) (UL _)
mutual
theorem Ax:∀(s:Sh) (k:Nat),dp s<=k->(tab s).length<=900->Gives (run txt (k+1) "_law_parts" [enc s] []) (.lst ((tab s).map me))
 | .num,k,_,_=>ni k rfl
 | .own,k,_,_=>ni k rfl
 | .bN n,k,_,_=>ni k rfl
 | .bH ps,0,hd,_=>by simp[dp]at hd
 | .bH ps,k+1,hd,b=>by
  have c:(tab (.bH ps)).length=jt ps+1:=by simp only[tab,aR,iK]
  exact J6 (k+1) (λs a=>C6 ps k (by simp only[dp]at hd;lia) (by lia) s a) (by lia)
theorem C6:∀ps k,su ps<=k->jt ps<=900->∀s∈ps,Gives (run txt (k+1) "_law_parts" [enc s] []) (.lst ((tab s).map me))
 | [],_,_,_,s,a=>by cases a
 | p::r,k,hd,b,s,a=>by
  simp only[su]at hd;simp only[jt]at b;rcases aW.mp a with e | e
  ·rw[e];exact Ax p k (by lia) (by lia)
  ·exact C6 r k (by lia) (by lia) s e
end
mutual
theorem HW:∀(s:Sh),∀r∈tab s,(tab r.2.2.2).length<=(tab s).length
 | .num,r,h=>by simp[tab]at h;subst h;simp[tab]
 | .own,r,h=>by simp[tab]at h;subst h;simp[tab]
 | .bN n,r,h=>by simp[tab]at h;subst h;simp[tab]
 | .bH ps,r,h=>by
  have a:(tab (.bH ps)).length=jt ps+1:=by simp only[tab,aR,iK]
  simp only[tab,aW]at h;rcases h with rfl | h
  ·exact au _
  ·have:=xQ ps 0 0 r h
   lia
theorem xQ:∀l k a,∀r∈tabs k a l,(tab r.2.2.2).length<=jt l
 | [],_,_,r,h=>by simp[tabs]at h
 | s::l,k,a,r,h=>by
  simp only[tabs,bB,az]at h;simp only[jt];rcases h with⟨b,h0,rfl⟩ | h
  ·have:=HW s b h0;simp only[qK]
   lia
  ·have:=xQ l _ _ r h
   lia
end
mutual
def pos:Sh->Bool
 | .bN n=>decide (0<n)
 | .bH ps=>N5 ps
 | _=>true
def N5:List Sh->Bool
 | []=>true
 | s::r=>pos s&&N5 r
end
mutual
theorem vq:∀(s:Sh),pos s=true->∀r∈tab s,pos r.2.2.2=true
 | .num,h,r,hr=>by simp[tab]at hr;subst hr;exact h
 | .own,h,r,hr=>by simp[tab]at hr;subst hr;exact h
 | .bN n,h,r,hr=>by simp[tab]at hr;subst hr;exact h
 | .bH ps,h,r,hr=>by
  simp only[tab,aW]at hr;rcases hr with rfl | hr
  ·exact h
  ·exact xT ps (by simpa only[pos]using h) 0 0 r hr
theorem xT:∀l,N5 l=true->∀k a,∀r∈tabs k a l,pos r.2.2.2=true
 | [],_,_,_,r,hr=>by simp[tabs]at hr
 | s::l,h,k,a,r,hr=>by
  simp only[N5,aY]at h;simp only[tabs,bB,az]at hr;rcases hr with⟨b,h0,rfl⟩ | hr
  ·exact vq s h.1 b h0
  ·exact xT l h.2 _ _ r hr
end
def HX(s:Sh):Prop:=Ao s/\pos s=true
def Ay(h:Ao s)(hr:r∈tab s):Ao r.2.2.2:=by
 have a:=HW s r hr;have b:=(An s r hr).1;have c:=h.1;have d:=h.2;exact⟨bC ‹_› ‹_›,(bC ‹_› ‹_›)⟩
def cZ(s:Sh):Prop:=HX s/\(lv s).length<=3
def lP(c:Int):cZ (jv c):=by
 have a:0<1+c/7%8/\1+c/7%8<=8:=by lia
 have:c%7=0\/c%7=1\/c%7=2\/c%7=3\/c%7=4\/c%7=5\/c%7=6:=by lia
 unfold jv;rcases this with h | h | h | h | h | h | h<;>rw[h]<;>simp[cZ,HX,Ao,tab,tabs,dp,su,pos,N5,lv,il,a]
def N6:cZ .num:=by simp[cZ,HX,Ao,tab,dp,pos,lv]
def N7(h:cZ s)(hr:r∈tab s):cZ r.2.2.2:=by
 obtain⟨⟨a,b⟩,c⟩:=h;exact⟨⟨Ay a hr,vq s b r hr⟩,bC (An s r hr).2 c⟩
structure kz (ks:List Rk):Prop where
 nd:(ks.map (·.1)).Nodup
 good:∀q∈ks,HX (held q.2)/\(lv (held q.2)).length<=3
 few:ks.length<=10
 ne:∀q∈ks,(q.1==(Str.ofString ""))=false
def kz.ok(K:kz ks):Zs ks:=λq a=>(K.good q a).1.1
def kw:Kn->Str
 | .ow s=>Zq s
 | .ho b _=>hw b
def qp(h:List aE)(k:Kn):bf h (encK k) (.int 0)=some (.str (kw k)):=by
 cases k with
 | ow s=>exact qR h s
 | ho b s=>rfl
def vt(h:List aE)(d:Kn):ku false h (.str (kw d)) (.aq [.str "lent",.str "sole"])=some (.bl (iS d)):=by
 cases d with
 | ow s=>cases s<;>kernel_rfl
 | ho b s=>cases b<;>kernel_rfl
def vv(h:List aE)(a b:Str):KA h (.str a) (.str b)=some (.bl (!(a==b))):=rfl
def may(d:Kn):Bool:=!(kw d==(Str.ofString "lent"))
def pe(ks:List Rk):List Sp:=ks.flatMap λq=>(tab (held q.2)).map λr=>⟨q.1,q.2,r,.cf⟩
def nj(s:Sp):PV:=.aq [ck s,enc s.r.2.2.2,.bl (may s.d)]
def Az(h:Zs ks):∀s∈pe ks,dA ks s/\s.a=.cf:=by
 intro s b;obtain⟨q,c,b⟩:=dy.mp b;obtain⟨r,hr,rfl⟩:=az.mp b;exact⟨⟨c,h q c,hr,.cf⟩,rfl⟩
def AA(h:Zs ks):(pe ks).length<=100*ks.length:=by
 induction ks with
 | nil=>simp[pe]
 | cons q ks ih =>
  have b:=(h q aO).1;have a:=ih λr hr=>h r (aM _ hr)
  simp only[pe,jg,bK,aD,aR]at a ⊢
  lia
def vw(a:q∈ks):(⟨q.1,q.2,([],0,sz (held q.2),held q.2),.cf⟩:Sp)∈pe ks:=dy.mpr ⟨q,a,az.mpr ⟨_,iL _,rfl⟩⟩
def N8(c:CT)(S:Option PV)(x:Str)(d:Kn)(i:Option PV)(T:List Rw):∀(acc:List PV) (a b:Option PV),acc.length+T.length<=90000 ->
  ∃f g,dX (jZ 2 (eP (aX 6) (eP (aX 7) uz))) (FL c) (T.map me) ⟨[S,some (.ref 0),some (.str x),some (encK d),some (.bl (iS d)),i,a,b],[⟨.lst,acc⟩]⟩=some (.ok .nx,⟨[S,some (.ref 0),some (.str x),some (encK d),some (.bl (iS d)),i,f,g],[⟨.lst,acc++T.map λr=>nj ⟨x,d,r,.cf⟩⟩]⟩):=by
 induction T with
 | nil=>exact λacc a b _=>⟨a,b,by simp;rfl⟩
 | cons r T ih =>
  intro acc a b j;simp only[aR]at j;obtain⟨f,g,e⟩:=ih (acc++[nj ⟨x,d,r,.cf⟩]) (some (.aq (r.1.map .int))) (some (enc r.2.2.2)) (by simp;lia)
  refine⟨f,g,?_⟩;rw[cC]at e;rw[aH,aH];exact fC rfl (dS (sx rfl rfl (cA (tU (cA rfl (cA rfl (cA (b2 (b2 rfl rfl (qp _ d)) rfl (vv _ _ _)) rfl))) (by simp)) rfl) (aC rfl (by lia)))) e
def J8(k:Nat)(hk:3<=k)(S:Option PV)(ks:List Rk):∀(acc:List PV) (f g i j a c:Option PV),Zs ks->acc.length+100*ks.length<=80000 ->
  ∃l m o p t u,dX QQ (FN (run txt (k+1))) (ks.map bj) ⟨[S,some (.ref 0),f,g,i,j,a,c],[⟨.lst,acc⟩]⟩=some (.ok .nx,⟨[S,some (.ref 0),l,m,o,p,t,u],[⟨.lst,acc++(pe ks).map nj⟩]⟩):=by
 induction ks with
 | nil=>exact λacc f g i j a c _ _=>⟨f,g,i,j,a,c,by simp[pe];rfl⟩
 | cons q ks ih =>
  intro acc f g i j a c ho v;simp only[aR]at v;obtain⟨E,H⟩:=ho q aO;obtain⟨w,y,B⟩:=N8 (run txt (k+1)) S q.1 q.2 (some (enc (held q.2))) (tab (held q.2)) acc a c (by lia)
  obtain⟨l,m,o,p,t,u,e⟩:=ih (acc++(tab (held q.2)).map λr=>nj ⟨q.1,q.2,r,.cf⟩) (some (.str q.1)) (some (encK q.2)) (some (.bl (iS q.2))) (some (enc (held q.2))) w y (λr hr=>ho r (aM _ hr)) (by grind)
  refine⟨l,m,o,p,t,u,?_⟩;have C:(pe (q::ks)).map nj=((tab (held q.2)).map λr=>nj ⟨q.1,q.2,r,.cf⟩)++(pe ks).map nj:=by
   simp[pe,Function.comp_def]
  rw[C,<-cC];have ht:=Ax (held q.2) k (bC ‹_› ‹_›) (by lia)
  have D:Ev (dk (eH (rd 4)) (dh Qx (aX 5)) (aV .nx)) ⟨[S,some (.ref 0),some (.str q.1),some (encK q.2),some (.bl (iS q.2)),some (encK q.2),a,c],[⟨.lst,acc⟩]⟩ .nx ⟨[S,some (.ref 0),some (.str q.1),some (encK q.2),some (.bl (iS q.2)),some (enc (held q.2)),a,c],[⟨.lst,acc⟩]⟩:=by
   obtain⟨x,d⟩:=q;cases d with
   | ow s=>rfl
   | ho b s=>rfl
  exact fC rfl (sq (aS (b2 (b2 rfl rfl (qp _ q.2)) rfl (vt _ q.2)) rfl) (sq (aS rfl rfl) (sq D (fS (sV (cb rfl rfl (by simp[ah,dH]) ht) rfl) B)))) e
def Ys(b:noRef a=true)(x:Str)(c:Bool)(p:List Int):noRef (spT x c p a)=true:=by simp[spT,noRef,ah,vo,b]
def CK.nr(h:CK ks a):noRef a=true:=by cases h<;>rfl
def iO(h:dA ks s):noRef (ck s)=true:=Ys h.at_.nr _ _ _
theorem HY:∀l:List Sp,(∀s∈l,dA ks s)->ah (l.map nj)=true
 | [],_=>rfl
 | s::l,h=>by rw[aH];simp[ah,noRef,nj,iO (h s aO),dH,HY l λt ht=>h t (aM _ ht)]
def SU(k:Nat)(hk:3<=k)(ks:List Rk)(h:Zs ks)(b:ks.length<=100):Gives (run txt (k+2) "_law_spots" [.lst (ks.map bj)] []) (.lst ((pe ks).map nj)):=by
 rw[FO];obtain⟨c,d,f,g,i,j,e⟩:=J8 k hk (some (.lst (ks.map bj))) ks [] none none none none none none h (by simp;lia)
 rw[f9]at e;exact⟨.ref 0,_,iJ (sq rfl (sq (fS rfl e) (rS rfl))),j7 (HY _ λs a=>(Az h s a).1)⟩
def lx(s:Sp):PV:=.aq [ck s,.bl (may s.d)]
noncomputable def jw(x:Str)(dg:Int)(s:Sp):List Sp:=match s.r.2.2.2 with
 | .num=>[s]
 | .own=>[s]
 | .bN n=>[{s with a:=if dg/8%2=0 then .int (dg%n)else .str x}]
 | .bH _=>[]
def acq:Sh->Bool
 | .num=>true
 | .own=>true
 | _=>false
def J9:Sh->Bool
 | .bN _=>true
 | _=>false
def acr(h:List aE)(s:Sh):ku false h (.str (Zq s)) (.aq [.str "num",.str "own"])=some (.bl (acq s)):=by cases s<;>kernel_rfl
def UM(h:List aE)(s:Sh):jG h (.str (Zq s)) (.str "strip")=some (.bl (J9 s)):=by cases s<;>kernel_rfl
def Yt(S:Option PV)(x:Str)(dg:Int)(acc:List PV)(s:Sp):dB:=⟨[S,some (.str x),some (.int dg),some (.ref 0),some (ck s),some (enc s.r.2.2.2),some (.bl (may s.d))],[⟨.lst,acc⟩]⟩
def HZ(S:Option PV)(x:Str)(dg:Int)(s:Sp)(acc:List PV)(a:acc.length<90000):Ev (gj (zD "list" (k0 (iB wa)) (rd 3) (aj (kU .aq (aj (rd 4) QJ)) (aV [])))) (Yt S x dg acc s) .nx (Yt S x dg (acc++[lx s]) s):=dS (sx rfl rfl (cA rfl rfl) (aC rfl (dn ‹_›)))
def N9(c:CT)(S:Option PV)(x:Str)(dg:Int)(hp:pos s.r.2.2.2=true)(acc:List PV)(f:acc.length<90000):Ev (oK c) (Yt S x dg acc s) .nx (Yt S x dg (acc++(jw x dg s).map lx) s):=by
 have b:=λacc:List PV=>(bT (b2 (b2 rfl rfl (qR _ s.r.2.2.2)) rfl (acr _ s.r.2.2.2)):Ek (toB (op2 (ku false) Qt (kU .aq (aj (kS "num") (aj (kS "own") (aV [])))))) (Yt S x dg acc s) (acq s.r.2.2.2))
 have e:=λacc:List PV=>(bT (b2 (b2 rfl rfl (qR _ s.r.2.2.2)) rfl (UM _ s.r.2.2.2)):Ek (toB (op2 jG Qt (kS "strip"))) (Yt S x dg acc s) (J9 s.r.2.2.2))
 cases he:s.r.2.2.2 with
 | num =>
  rw[he]at b e;rw[show jw x dg s=[s] by unfold jw;rw[he]]
  exact sq (iT (b acc) (HZ S x dg s acc f)) (iF (e _) rfl)
 | own =>
  rw[he]at b e;rw[show jw x dg s=[s] by unfold jw;rw[he]]
  exact sq (iT (b acc) (HZ S x dg s acc f)) (iF (e _) rfl)
 | bH ps =>
  rw[he]at b e;rw[show jw x dg s=[] by unfold jw;rw[he],pO,dc]
  exact sq (iF (b acc) rfl) (iF (e acc) rfl)
 | bN n =>
  rw[he]at b e hp;rw[show jw x dg s=[{s with a:=if dg/8%2=0 then .int (dg%n)else .str x}] by unfold jw;rw[he]]
  refine sq (iF (b acc) rfl) (iT (e acc) ?_);have i:∀h,bf h (enc s.r.2.2.2) (.int 1)=some (.int n):=λh=>by rw[he];rfl
  have g:Ek (op2 bf (kU .lst (aj (op2 gX (rd 2) (op2 bf (rd 5) (kI 1))) Q0)) (op2 gX (op2 jF (rd 2) (kI 8)) (kI 2))) (Yt S x dg acc s) (if dg/8%2=0 then .int (dg%n)else .str x):=by
   refine b2 (lS (cA (b2 rfl (b2 rfl rfl (i _)) (du (by simpa[pos]using hp))) rfl) (by simp)) (b2 (b2 rfl rfl (Av (by decide))) rfl (du (by decide))) ?_
   have:dg/8%2=0\/dg/8%2=1:=by lia
   rcases this with h | h
   ·rw[h];rfl
   ·rw[h];rfl
  obtain⟨a,j⟩:=nw ((if dg/8%2=0 then PV.int (dg%n)else .str x))
  rw[<-j]at g ⊢;exact dS (sx rfl rfl (cA (tU (cA (b2 (x:=.aq [.str s.x,.bl (iS s.d),.aq (s.r.1.map .int)]) (cE rfl rfl rfl rfl) (tU (cA g rfl) (by simp)) (aT (by simp))) rfl) (by simp)) rfl) (aC rfl (dn ‹_›)))
theorem C7(c:CT)(S:Option PV)(x:Str)(dg:Int):∀(T:List Sp) (acc:List PV) (a b f:Option PV),(∀s∈T,pos s.r.2.2.2=true)->acc.length+T.length<=80000 ->
  ∃g i j,dX Qy (oK c) (T.map nj) ⟨[S,some (.str x),some (.int dg),some (.ref 0),a,b,f],[⟨.lst,acc⟩]⟩=some (.ok .nx,⟨[S,some (.str x),some (.int dg),some (.ref 0),g,i,j],[⟨.lst,acc++(T.flatMap (jw x dg)).map lx⟩]⟩)
 | [],acc,a,b,f,_,_=>⟨a,b,f,by simp;rfl⟩
 | s::T,acc,a,b,f,h,k=>by
  simp only[aR]at k;have l:=N9 c S x dg (h s aO) acc (by lia)
  have m:(jw x dg s).length<=1:=by
   unfold jw;split<;>simp
  obtain⟨g,i,j,e⟩:=C7 c S x dg T (acc++(jw x dg s).map lx) (some (ck s)) (some (enc s.r.2.2.2)) (some (.bl (may s.d))) (λt ht=>h t (aM _ ht)) (by grind)
  refine⟨g,i,j,?_⟩;rw[jg,bU,<-cC];exact fC rfl l e
abbrev Yu(ks:List Rk)(x:Str)(dg:Int):List Sp:=(pe ks).flatMap (jw x dg)
def SV(b:(x,Kn.ow .num)∈ks)(a:dA ks s):∀t∈jw x dg s,dA ks t/\t.d=s.d:=λt ht=>by
 unfold jw at ht;split at ht
 ·rw[aG]at ht;subst ht;exact⟨a,rfl⟩
 ·rw[aG]at ht;subst ht;exact⟨a,rfl⟩
 ·rw[aG]at ht;subst ht;refine⟨⟨a.mem,a.ok,a.row,?_⟩,rfl⟩;split
  ·exact .int _
  ·exact .str _ b
 ·cases ht
def Gk(K:kz ks)(a:(x,Kn.ow .num)∈ks)(dg:Int):(∀t∈Yu ks x dg,dA ks t)/\(Yu ks x dg).length<=1000/\∃t∈Yu ks x dg,may t.d=true:=by
 refine⟨λt ht=>?_,?_,?_⟩
 ·obtain⟨s,b,ht⟩:=dy.mp ht;exact(SV a (Az K.ok s b).1 t ht).1
 ·have c:=AA K.ok;have e:=K.few;have:∀T:List Sp,(T.flatMap (jw x dg)).length<=T.length:=λT=>by
   induction T with
   | nil=>simp
   | cons s T ih =>
    have f:(jw x dg s).length<=1:=by
     unfold jw;split<;>simp
    rw[jg,bK,aR]
    lia
  have:=this (pe ks);show(List.flatMap (jw x dg) (pe ks)).length<=1000
  lia
 ·refine⟨⟨x,.ow .num,([],0,sz .num,.num),.cf⟩,dy.mpr ⟨_,vw a,?_⟩,?_⟩
  ·simp[jw,held]
  ·show(!((Str.ofString "num")==(Str.ofString "lent")))=true;decide +kernel
theorem Oa:∀l:List Sp,(∀s∈l,dA ks s)->ah (l.map lx)=true
 | [],_=>rfl
 | s::l,h=>by rw[aH];simp[ah,noRef,lx,iO (h s aO),Oa l λt ht=>h t (aM _ ht)]
def Ka(k:Nat)(K:kz ks)(b:(x,Kn.ow .num)∈ks)(dg:Int):Gives (run txt (k+1) "_law_numbers" [.lst ((pe ks).map nj),.str x,.int dg] []) (.lst ((Yu ks x dg).map lx)):=by
 rw[Ag];have d:=AA K.ok;have f:=K.few;obtain⟨g,i,j,e⟩:=C7 (run txt k) (some (.lst ((pe ks).map nj))) x dg (pe ks) [] none none none (λs c=>by
  obtain⟨a,l⟩:=Az K.ok s c;exact vq _ (K.good _ a.mem).1.2 _ a.row) (by simp;lia)
 rw[f9]at e;exact⟨.ref 0,_,iJ (sq rfl (sq (fS rfl e) (rS rfl))),j7 (Oa _ (Gk K b dg).1)⟩
def eF(N:List α)(e:α->PV)(m:Int)(h:0<N.length):∃s∈N,∀H:List aE,bf H (.lst (N.map e)) (.int (m%((N.map e).length:Int)))=some (e s):=by
 rw[aD];have a:=mP m (show(N.length:Int)≠0 by lia)
 have b:=yk m (show 0<(N.length:Int) by lia)
 obtain⟨j,c⟩:=DS a;refine⟨N[j],List.getElem_mem (by lia),λH=>?_⟩
 rw[c];exact atI_nat (by grind)
def acs(h:List aE):Rm h (.int 10) (.int 30)=some (.int (10^30)):=by kernel_rfl
def eX.nr(h:eX ks o):noRef (gu o)=true:=by
 cases o with
 | n i=>rfl
 | s s=>exact iO h
def xU(k:Nat){N:List Sp}(h:∀s∈N,dA ks s)(c:0<N.length)(C m:Int):∃o,Gives (run txt (k+1) "_law_operand" [.int C,.int m,.lst (N.map lx)] []) (gu o)/\eX ks o:=by
 rw[Ah];obtain⟨s,b,d⟩:=eF N lx (m/20) c;have a:Ek (toB (op2 jG (op2 gX (op2 jF (rd 1) (kI 5)) (kI 4)) (kI 0))) (S0 [some (.int C),some (.int m),some (.lst (N.map lx))]) (m/5%4==0):=bT (b2 (b2 (b2 rfl rfl (Av (by decide))) rfl (du (by decide))) rfl (lu _ _ _))
 by_cases e:m/5%4=0
 ·rw[e,tx]at a;exact⟨.n (C%10^30),gV (o9 (iT a (rS (b2 rfl (b2 rfl rfl (acs _)) (du (by decide)))))) rfl,trivial⟩
 ·rw[show(m/5%4==0)=false by grind]at a
  exact⟨.s s,gV (sq (iF a rfl) (rS (b2 (b2 rfl (b2 (b2 rfl rfl (Av (by decide))) (bV (cA rfl rfl) rfl) (du (by grind))) (d _)) rfl rfl))) (iO (h s b)),h s b⟩
def Ob(h:List aE)(s:Sh):KA h (.str (Zq s)) (.str "rec")=some (.bl (jr s)):=by cases s<;>kernel_rfl
theorem oR(S:Option PV):∀(ps:List Sh) (af:List PV) (a:Option PV),(∀s∈ps,Gives (c "_law_leaves" [enc s] []) (.lst (cj (lv s))))->af.length+(il ps).length<=4000000 ->
  ∃b,dX (aX 2) (qP c) (cj ps) (S0 [S,some (.lst af),a])=some (.ok .nx,S0 [S,some (.lst (af++cj (il ps))),b])
 | [],af,a,_,_=>⟨a,by simp[cj,il];rfl⟩
 | s::ps,af,a,h,d=>by
  simp only[il,bK]at d;have f:Ev (qP c) (S0 [S,some (.lst af),some (enc s)]) .nx (S0 [S,some (.lst (af++cj (lv s))),some (enc s)]):=aS (b2 rfl (cb rfl rfl rfl (h s aO)) (aL (by rw[fF];lia))) rfl
  obtain⟨b,e⟩:=oR S ps (af++cj (lv s)) (some (enc s)) (λt ht=>h t (aM _ ht)) (by rw[bK,fF];lia)
  refine⟨b,?_⟩;have ex:af++cj (il (s::ps))=af++cj (lv s)++cj (il ps):=by
   simp only[il,qI,cC]
  rw[ex];exact fC rfl f e
def j8(k:Nat)(h:jr s=true):Gives (run txt (k+1) "_law_leaves" [enc s] []) (.lst [enc s]):=by
 rw[qQ];exact gV (o9 (iT (bT (b2 (b2 rfl rfl (qR _ s)) rfl ((Ob _ s).trans (by rw[h])))) (rS rfl))) (by simp[noRef,ah,dH])
mutual
theorem lQ:∀(s:Sh) (k:Nat),dp s<=k->(lv s).length<=90000->Gives (run txt (k+1) "_law_leaves" [enc s] []) (.lst (cj (lv s)))
 | .num,k,_,_=>j8 k rfl
 | .own,k,_,_=>j8 k rfl
 | .bN n,k,_,_=>j8 k rfl
 | .bH ps,0,hd,_=>by simp[dp]at hd
 | .bH ps,k+1,hd,a=>by
  simp only[dp]at hd;simp only[lv]at a;rw[qQ];obtain⟨b,e⟩:=oR (some (enc (.bH ps))) ps [] none (ly ps k (by lia) a) (by simp;lia)
  rw[f9]at e;have z:lv (.bH ps)=il ps:=by simp only[lv]
  rw[z];exact gV (sq (iF (bT (b2 (b2 rfl rfl (qR _ (.bH ps))) rfl (Ob _ (.bH ps)))) rfl) (sq rfl (sq (fS (sV (b2 rfl rfl (by simp only[enc];rfl)) rfl) e) (rS rfl)))) (sv _)
theorem ly:∀ps k,su ps<=k->(il ps).length<=90000->∀s∈ps,Gives (run txt (k+1) "_law_leaves" [enc s] []) (.lst (cj (lv s)))
 | [],_,_,_,s,a=>by cases a
 | p::r,k,hd,b,s,a=>by
  simp only[su]at hd;simp only[il,bK]at b;rcases aW.mp a with e | e
  ·rw[e];exact lQ p k (by lia) (by lia)
  ·exact ly r k (by lia) (by lia) s e
end
mutual
theorem H0:∀(s:Sh),∀r∈tab s,0<=r.2.1/\0<=r.2.2.1/\r.2.1+r.2.2.1<=((lv s).length:Int)
 | .num,r,h=>by simp only[tab,aG]at h;subst h;simp[lv]
 | .own,r,h=>by simp only[tab,aG]at h;subst h;simp[lv]
 | .bN n,r,h=>by simp only[tab,aG]at h;subst h;simp[lv]
 | .bH ps,r,h=>by
  simp only[tab,aW]at h;rcases h with h | h
  ·subst h;simp[lv]
  ·have:=C8 ps 0 0 r h (by lia)
   simp only[lv]
   lia
theorem C8:∀l k a,∀r∈tabs k a l,0<=a->0<=r.2.1/\0<=r.2.2.1/\r.2.1+r.2.2.1<=a+((il l).length:Int)
 | [],_,_,_,h,_=>nomatch h
 | s::l,k,a,r,h,c=>by
  rw[C5,bB]at h;simp only[il,bK];rcases h with h | h
  ·obtain⟨q,b,rfl⟩:=az.mp h;have:=H0 s q b;simp only[qK]
   lia
  ·have:=C8 l (k+1) (a+sz s) r h (by simp only[sz];lia)
   simp only[sz]at this
   lia
end
structure vx (X:List Str) (Bd:Nat) (a:bW):Prop where
 f0:0<=a.f
 m0:0<=a.m
 few:a.f+a.m<=(Bd:Int)
 nm:a.n∈X\/a.n=""
abbrev xV(ks:List Rk):List Str:=ks.map (·.1)
structure oS (ks:List Rk) (M:Nat) (p:PV) (as:List bW):Prop where
 made:∀F K,oM F ks->noRef F=true->12<=K->NS (run txt K) F p as
 six:as.length<=6
 nx:∀j,j+1<M->UK M j p
 ok:∀a∈as,vx (xV ks) 3 a
section
variable {ks:List Rk}
def KJ{F p:PV}{as:List bW}{w fn:Str}{a:List PV}{c:CT}(hp:p=.aq (.str w::a))(h1:jU.lookup w=some fn)(b:X9.lookup fn=some 2)(e:as.length<=6)(h:Gives (c fn [F,p] []) (gq as))(d:noRef p=true):NS c F p as:=⟨⟨w,fn,a,hp,h1,b,h⟩,(dn ‹_›),d⟩
def mH{M:Nat}{w:Str}{a:List PV}(h1:(w==(Str.ofString "go"))=false)(c:(w==(Str.ofString "if"))=false):∀j,j+1<M->UK M j (.aq (.str w::a)):=λj b=>⟨w,(λ_=>atI_nat (rfl)),(λz=>by grind),(λz=>by grind),λ_ _=>b⟩
def xW(K:kz ks)(w:Str){x:Str}{d:Kn}(a:(x,d)∈ks){r:Rw}(hr:r∈tab (held d))(t:Str):vx (xV ks) 3 (tA w x d r t):=by
 obtain⟨b,c,f⟩:=H0 _ r hr;have e:=(K.good _ a).2;simp only at e;exact⟨b,c,by show r.2.1+r.2.2.1<=_;lia,.inl (az.mpr ⟨_,a,rfl⟩)⟩
def lz(K:kz ks)(w:Str){s:Sp}(a:dA ks s)(t:Str):vx (xV ks) 3 (qm w s t):=xW K w a.mem a.row t
def Oc{a:PV}(h:CK ks a):∀q∈DL a,vx (xV ks) 3 q:=λq b=>by
 cases h with
 | cf=>cases b
 | int i=>cases b
 | str y c =>
  simp only[DL,aG]at b;subst b;exact⟨pT 0,(by show 0<=1;decide),(by show 0+1<=((3:Nat):Int);decide),.inl (az.mpr ⟨_,c,rfl⟩)⟩
def vy(K:kz ks){o:Op}(ho:eX ks o):∀q∈oN o,vx (xV ks) 3 q:=λq a=>by
 cases o with
 | n i=>cases a
 | s s =>
  rcases bB.mp a with h | h
  ·exact Oc ho.at_ q h
  ·rw[aG]at h;subst h;exact lz K _ ho _
def Od(K:kz ks){s:Sp}(b:dA ks s):∀q∈wH s,vx (xV ks) 3 q:=λq a=>by
 unfold wH at a;split at a
 ·rw[aG]at a;subst a;exact lz K _ b _
 ·rcases bB.mp a with h | h
  ·exact Oc b.at_ q h
  ·rw[aG]at h;subst h;exact lz K _ b _
def Yv(K:kz ks){r:Rk}(hr:r∈ks)(t:Str):vx (xV ks) 3 (tkA r.1 r.2 t):=by
 obtain⟨x,d⟩:=r;cases d with
 | ow s=>exact xW K _ hr (iL s) _
 | ho b s=>exact xW K _ hr (iL s) _
def Yw(K:kz ks){r:Rk}(hr:r∈ks):vx (xV ks) 3 (Zr r.1 r.2):=by
 obtain⟨x,d⟩:=r;cases d with
 | ow s=>exact xW K _ hr (iL s) _
 | ho b s=>exact xW K _ hr (iL s) _
def C9:vx (xV ks) 3 vc:=⟨by decide,by decide,by decide,.inr rfl⟩
def Kb{as:List bW}(h:∀a∈as,vx (xV ks) 3 a):∀a∈cR as,vx (xV ks) 3 a:=λa c=>by
 cases as with
 | nil =>
  simp only[cR,aG]at c;subst c;exact C9
 | cons b l=>exact h a c
theorem H9(K:kz ks):∀(l:List Rk) (i:Nat),(∀r∈l,r∈ks)->∀q∈fN i l,vx (xV ks) 3 q
 | [],_,_,_,h=>nomatch h
 | r::l,i,a,q,h=>by
  simp only[fN,aW]at h;rcases h with h | h
  ·subst h;exact Yv K (a r aO) _
  ·exact H9 K l (i+1) (λs b=>a s (aM _ b)) q h
def SW(K:kz ks){tk:Option Rk}(ht:∀r,tk=some r->r∈ks):∀q∈ie tk,vx (xV ks) 3 q:=λq a=>by
 cases tk with
 | none=>cases a
 | some r =>
  have hr:=ht r rfl;obtain⟨x,d⟩:=r;cases d with
  | ow s =>
   simp only[ie,aG]at a;subst a;exact xW K _ hr (iL s) _
  | ho b s =>
   simp only[ie,aG]at a;subst a;exact⟨pT 0,pT 0,(by show 0+0<=((3:Nat):Int);decide),.inr rfl⟩
def vz{X:List Str}{Bd:Nat}{a b:List bW}(h1:∀q∈a,vx X Bd q)(c:∀q∈b,vx X Bd q):∀q∈a++b,vx X Bd q:=by grind
def K7{K:Nat}(h:12<=K):∃k,K=k+7/\3<=k:=⟨K-7,by lia,by lia⟩
variable (K:kz ks) (M:Nat)
include K
def SX{s:Sp}(a:dA ks s){o:Op}(ho:eX ks o):oS ks M (.aq [.str "put",ck s,gu o]) (oN o++wH s):=by
 have d:=ju o;have e:=Aq s;have b:(oN o++wH s).length<=6:=by grind
 refine⟨λF k hF hN hk=>?_,b,?_,vz (vy K ho) (Od K a)⟩
 ·obtain⟨k,rfl,c⟩:=K7 hk;exact KJ rfl (by kernel_rfl) (by kernel_rfl) b (F7 hF k c "put" a ho) (by simp[noRef,ah,iO a,eX.nr ho])
 ·exact mH (by decide +kernel) (by decide +kernel)
def SY{s:Sp}(c:dA ks s)(q:PV)(g:noRef q=true){a b:Op}(d:eX ks a)(e:eX ks b):oS ks M (.aq [.str "set",ck s,q,gu a,gu b]) (oN a++oN b++wH s):=by
 have j:=ju a;have l:=ju b;have m:=Aq s;have f:(oN a++oN b++wH s).length<=6:=by grind
 refine⟨λF k hF hN hk=>?_,f,mH (by decide +kernel) (by decide +kernel),vz (vz (vy K d) (vy K e)) (Od K c)⟩
 obtain⟨k,rfl,i⟩:=K7 hk;exact KJ rfl (by kernel_rfl) (by kernel_rfl) f (F8 hF k i "set" c q d e) (by simp[noRef,ah,iO c,eX.nr d,eX.nr e,g])
def Yx{a:Op}(c:eX ks a)(i:Int){m:Nat}(e:m<M):oS ks M (.aq [.str "if",gu a,.int i,iN m]) (oN a++[]):=by
 have l:=ju a;have d:(oN a++[]).length<=6:=by grind
 refine⟨λF k hF hN hk=>?_,d,λj f=>⟨"if",λ_=>rfl,λz=>absurd z (by decide +kernel),λ_=>⟨m,λ_=>rfl,e⟩,λ_ _=>f⟩,vz (vy K c) (λ_ h=>nomatch h)⟩
 obtain⟨k,rfl,g⟩:=K7 hk;exact KJ rfl (by kernel_rfl) (by kernel_rfl) d (JY hF k g "if" (iN m) c (b:=.n i) trivial) (by simp[noRef,ah,eX.nr c,iN])
def S2{a:Op}(b:eX ks a):oS ks M (.aq [.str "say",gu a]) (oN a):=by
 have e:=ju a;have c:(oN a).length<=6:=dn ‹_›;refine⟨λF k hF hN hk=>?_,c,mH (by decide +kernel) (by decide +kernel),vy K b⟩
 obtain⟨k,rfl,d⟩:=K7 hk;exact KJ rfl (by kernel_rfl) (by kernel_rfl) c (F9 hF k d "say" b) (by simp[noRef,ah,eX.nr b])
theorem Yy{m:Nat}(a:m<M):oS ks M (.aq [.str "go",iN m]) []:=by
 refine⟨λF k hF hN hk=>?_,by simp,λj b=>⟨"go",λ_=>rfl,λ_=>⟨m,λ_=>rfl,a⟩,λz=>absurd z (by decide +kernel),λ_ z=>absurd z (by decide +kernel)⟩,λ_ h=>nomatch h⟩
 obtain⟨k,rfl,c⟩:=K7 hk;exact KJ rfl (by kernel_rfl) (by kernel_rfl) (by simp) (JZ k _) (by simp[noRef,ah,iN])
theorem Kc:oS ks M (.aq [.str "give",.str ""]) []:=by
 refine⟨λF k hF hN hk=>?_,by simp,mH (by decide +kernel) (by decide +kernel),λ_ h=>nomatch h⟩
 obtain⟨k,rfl,a⟩:=K7 hk;exact KJ rfl (by kernel_rfl) (by kernel_rfl) (by simp) (Ar k "give") (by simp[noRef,ah])
def Dc{r:Rk}(hr:r∈ks):oS ks M (.aq [.str "give",.str r.1]) [Zr r.1 r.2]:=by
 refine⟨λF k hF hN hk=>?_,by simp,mH (by decide +kernel) (by decide +kernel),λq a=>?_⟩
 ·obtain⟨k,rfl,b⟩:=K7 hk;exact KJ rfl (by kernel_rfl) (by kernel_rfl) (by simp) (CQ hF k b "give" hr (K.ok _ hr) (K.ne _ hr)) (by simp[noRef,ah])
 ·rw[aG]at a;subst a;exact Yw K hr
def Oe{s t:Sp}(a:dA ks s)(ht:dA ks t):oS ks M (.aq [.str "copy",ck s,ck t]) [qm "read" t "",qm "fill" s ""]:=by
 refine⟨λF k hF hN hk=>?_,by simp,mH (by decide +kernel) (by decide +kernel),λq b=>?_⟩
 ·obtain⟨k,rfl,c⟩:=K7 hk;exact KJ rfl (by kernel_rfl) (by kernel_rfl) (by simp) (CL hF k c "copy" a ht) (by simp[noRef,ah,iO a,iO ht])
 ·simp only[aW,fw,fA]at b;rcases b with rfl | rfl
  ·exact lz K _ ht _
  ·exact lz K _ a _
def Of{s t:Sp}(a:dA ks s)(ht:dA ks t):oS ks M (.aq [.str "move",ck s,ck t]) [qm "empty" t "",qm "fill" s ""]:=by
 refine⟨λF k hF hN hk=>?_,by simp,mH (by decide +kernel) (by decide +kernel),λq b=>?_⟩
 ·obtain⟨k,rfl,c⟩:=K7 hk;exact KJ rfl (by kernel_rfl) (by kernel_rfl) (by simp) (CM hF k c "move" a ht) (by simp[noRef,ah,iO a,iO ht])
 ·simp only[aW,fw,fA]at b;rcases b with rfl | rfl
  ·exact lz K _ ht _
  ·exact lz K _ a _
def Og{w:Str}(hw:w="lend"\/w="sole")(x:Str){s:Sp}(a:dA ks s):oS ks M (.aq [.str w,.str x,ck s]) [qm w s x]:=by
 refine⟨λF k hF hN hk=>?_,by simp,?_,λq b=>?_⟩
 ·obtain⟨k,rfl,c⟩:=K7 hk;have h:=CN hF k c w x a;rcases hw with rfl | rfl
  ·exact KJ rfl (by kernel_rfl) (by kernel_rfl) (by simp) h (by simp[noRef,ah,iO a])
  ·exact KJ rfl (by kernel_rfl) (by kernel_rfl) (by simp) h (by simp[noRef,ah,iO a])
 ·rcases hw with rfl | rfl
  ·exact mH (by decide +kernel) (by decide +kernel)
  ·exact mH (by decide +kernel) (by decide +kernel)
 ·rw[aG]at b;subst b;exact lz K _ a _
def Oh(fn:PV)(e:noRef fn=true){a:List Rk}(b:∀r∈a,r∈ks)(f:a.length<=4){tk:Option Rk}(ht:∀r,tk=some r->r∈ks):oS ks M (.aq [.str "call",.str (Gd tk),fn,.aq (a.map λr=>.str r.1)]) (fN 0 a++jd::ie tk):=by
 have l:=ve a 0;have g:(ie tk).length<=1:=by
  cases tk with
  | none=>simp[ie]
  | some r=>obtain⟨x,d⟩:=r;cases d<;>simp[ie]
 have c:(fN 0 a++jd::ie tk).length<=6:=by grind
 refine⟨λF k hF hN hk=>?_,c,mH (by decide +kernel) (by decide +kernel),vz (H9 K a 0 b) λq i=>?_⟩
 ·obtain⟨k,rfl,j⟩:=K7 hk;have h:=CS hF k j hN "call" fn b K.ok (by lia) (λr hr=>⟨ht r hr,K.ne r (ht r hr)⟩)
  exact KJ rfl (by kernel_rfl) (by kernel_rfl) c h (by simp[noRef,ah,e,gw])
 ·rcases aW.mp i with rfl | h
  ·exact⟨by decide,by decide,by decide,.inr rfl⟩
  ·exact SW K ht q h
end
def lA(h:eqT (.aq (.str a::xs)) (.aq (.str b::c))=true):(a==b)=true/\pZ xs c=true:=gQ.mp h
mutual
theorem AB:∀s t:Sh,eqT (AR s) (AR t)=true->s=t
 | .num,.num,_=>rfl
 | .own,.own,_=>rfl
 | .bN n,.bN m,h=>by
  have c:((n==m)&&true)=true:=(lA h).2;rw[tJ]at c;rw[bu c]
 | .bH a,.bH b,h=>by
  have c:(pZ (rO a) (rO b)&&true)=true:=(lA h).2;rw[tJ]at c;rw[Ia a b c]
 | .num,.own,h=>absurd (lA h).1 (by decide +kernel)
 | .num,.bN _,h=>absurd (lA h).1 (by decide +kernel)
 | .num,.bH _,h=>absurd (lA h).1 (by decide +kernel)
 | .own,.num,h=>absurd (lA h).1 (by decide +kernel)
 | .own,.bN _,h=>absurd (lA h).1 (by decide +kernel)
 | .own,.bH _,h=>absurd (lA h).1 (by decide +kernel)
 | .bN _,.num,h=>absurd (lA h).1 (by decide +kernel)
 | .bN _,.own,h=>absurd (lA h).1 (by decide +kernel)
 | .bN _,.bH _,h=>absurd (lA h).1 (by decide +kernel)
 | .bH _,.num,h=>absurd (lA h).1 (by decide +kernel)
 | .bH _,.own,h=>absurd (lA h).1 (by decide +kernel)
 | .bH _,.bN _,h=>absurd (lA h).1 (by decide +kernel)
theorem Ia:∀a b:List Sh,pZ (rO a) (rO b)=true->a=b
 | [],[],_=>rfl
 | s::a,t::b,h=>by
  have h:=gQ.mp (h);rw[AB s t h.1,Ia a b h.2]
 | [],_::_,h=>nomatch h
 | _::_,[],h=>nomatch h
end
def Oi:Kn->Tr
 | .ow s=>AR s
 | .ho b s=>.aq [.str (hw b),AR s]
theorem Yz:∀a b:Kn,eqT (Oi a) (Oi b)=true->a=b
 | .ow s,.ow t,h=>by rw[AB s t h]
 | .ho a s,.ho b t,h=>by
  have h:=lA h;have c:(eqT (AR s) (AR t)&&true)=true:=h.2;rw[tJ]at c;rw[AB s t c];have d:=h.1;cases a<;>cases b<;>first | rfl | exact absurd d (by decide +kernel)
 | .ow s,.ho b t,h=>by
  exfalso
  cases s<;>cases b<;>exact absurd (lA h).1 (by decide +kernel)
 | .ho b t,.ow s,h=>by
  exfalso
  cases s<;>cases b<;>exact absurd (lA h).1 (by decide +kernel)
structure Cs where
 d1:Kn
 d4:Kn
 d5:Kn
 r1:Option Kn
 pl:Int
noncomputable def pk(C:Cs):Nat->List Kn
 | 0=>[]
 | 1=>if C.pl%2=1 then [C.d1,C.d4]else [C.d4,C.d1]
 | _=>[C.d4,C.d5].take (C.pl/2).toNat++C.d1::[C.d4,C.d5].drop (C.pl/2).toNat
def rk(C:Cs):Nat->Option Kn
 | 0=>none
 | 1=>C.r1
 | _=>some C.d4
inductive Ro where
 | put (s:Sp) (o:Op)
 | set (s:Sp) (g:Str) (a b:Op)
 | vA (t s:Sp)
 | vD (t s:Sp)
 | oT (x:Str) (b:Bool) (s:Sp)
 | call (tk:Option Rk) (j:Nat) (ar:List Rk)
 | Gn (a:Op) (i:Int) (m:Nat)
 | go (m:Nat)
 | KN (a:Op)
 | iU (z:Option Rk)
noncomputable def lw(b:Bool):Str:=if b then "sole" else "lend"
abbrev je(r:Rk):PV:=.str r.1
abbrev KO(r:Option Rk):PV:=.str (Gd r)
def cz(fn:Nat->PV):Ro->PV
 | .put s o=>.aq [.str "put",ck s,gu o]
 | .set s g a b=>.aq [.str "set",ck s,.str g,gu a,gu b]
 | .vA t s=>.aq [.str "copy",ck t,ck s]
 | .vD t s=>.aq [.str "move",ck t,ck s]
 | .oT x b s=>.aq [.str (lw b),.str x,ck s]
 | .call c j d=>.aq [.str "call",KO c,fn j,.aq (d.map je)]
 | .Gn a i m=>.aq [.str "if",gu a,.int i,iN m]
 | .go m=>.aq [.str "go",iN m]
 | .KN a=>.aq [.str "say",gu a]
 | .iU z=>.aq [.str "give",KO z]
def Ke(C:Cs)(ks:List Rk)(M:Nat):Ro->Prop
 | .put s o=>dA ks s/\eX ks o
 | .set s g a b=>dA ks s/\eX ks a/\eX ks b
 | .vA t s=>dA ks t/\dA ks s
 | .vD t s=>dA ks t/\dA ks s
 | .oT x b s=>dA ks s/\(x,Kn.ho b s.r.2.2.2)∈ks
 | .call d j c=>j<3/\d.map (·.2)=rk C j/\c.map (·.2)=pk C j/\(∀r∈c,r∈ks)/\c.length<=4/\∀r,d=some r->r∈ks
 | .Gn a _ m=>eX ks a/\m<M
 | .go m=>m<M
 | .KN a=>eX ks a
 | .iU z=>∀r,z=some r->r∈ks
def O1:Ro->List bW
 | .put s o=>oN o++wH s
 | .set s _ a b=>oN a++oN b++wH s
 | .vA t s=>[qm "read" s "",qm "fill" t ""]
 | .vD t s=>[qm "empty" s "",qm "fill" t ""]
 | .oT x b s=>[qm (lw b) s x]
 | .call c _ d=>fN 0 d++jd::ie c
 | .Gn a _ _=>oN a++[]
 | .go _=>[]
 | .KN a=>oN a
 | .iU none=>[]
 | .iU (some r)=>[Zr r.1 r.2]
theorem YA(K:kz ks)(M:Nat)(c:∀j,noRef (fn j)=true):∀r:Ro,Ke C ks M r->oS ks M (cz fn r) (O1 r)
 | .put s o,h=>SX K M h.1 h.2
 | .set s g a b,h=>SY K M h.1 (.str g) rfl h.2.1 h.2.2
 | .vA t s,h=>Oe K M h.1 h.2
 | .vD t s,h=>Of K M h.1 h.2
 | .oT x b s,h=>Og K M (by cases b<;>first | exact .inl rfl | exact .inr rfl) x h.1
 | .call d j e,h=>Oh K M (fn j) (c j) h.2.2.2.1 h.2.2.2.2.1 h.2.2.2.2.2
 | .Gn a i m,h=>Yx K M h.1 i h.2
 | .go m,h=>Yy K M h
 | .KN a,h=>S2 K M h
 | .iU none,_=>Kc K M
 | .iU (some r),h=>Dc K M (h r rfl)
theorem Dd(c:∀j,noRef (fn j)=true):∀r:Ro,Ke C ks M r->noRef (cz fn r)=true
 | .put s o,h=>by simp[cz,noRef,ah,iO h.1,eX.nr h.2]
 | .set s g a b,h=>by simp[cz,noRef,ah,iO h.1,eX.nr h.2.1,eX.nr h.2.2]
 | .vA t s,h=>by simp[cz,noRef,ah,iO h.1,iO h.2]
 | .vD t s,h=>by simp[cz,noRef,ah,iO h.1,iO h.2]
 | .oT x b s,h=>by simp[cz,noRef,ah,iO h.1]
 | .call d j e,h=>by simp[cz,noRef,ah,c j,gw]
 | .Gn a i m,h=>by simp[cz,noRef,ah,eX.nr h.1,iN]
 | .go m,h=>rfl
 | .KN a,h=>by simp[cz,noRef,ah,eX.nr h]
 | .iU z,_=>rfl
def wI(fn:Nat->PV)(C:Cs)(ks:List Rk)(M:Nat)(p:PV):Prop:=∃r,p=cz fn r/\Ke C ks M r
def Rt(P:PV->Prop)(x:Option (Rs fD×dB)):Prop:=∃p s,x=some (.ok (.rt p),s)/\noRef p=true/\P p
def Rt.run(h:Rt P (f ⟨gY n as,[]⟩)):∃p,Gives (dJ f n as []) p/\P p:=by
 obtain⟨p,⟨d,e⟩,a,b,c⟩:=h;exact⟨p,gV a b,c⟩
def xS(h:Ev f s .nx s1)(k:Rt P (g s1)):Rt P (er f g s):=by
 obtain⟨p,c,a,b⟩:=k;exact⟨p,c,sq h a,b⟩
def xI(hc:Ev e s b s1)(ht:b=true->Rt P (f s1))(g:b=false->Rt P (h s1)):Rt P (er (dk e f (aV .nx)) h s):=by
 cases b with
 | true =>
  obtain⟨p,d,a,c⟩:=ht rfl;exact⟨p,d,o9 (iT hc a),c⟩
 | false =>
  obtain⟨p,d,a,c⟩:=g rfl;exact⟨p,d,sq (iF hc rfl) a,c⟩
def xR(h:Ev fa s p s1)(a:noRef p=true)(k:P p):Rt P (retS fa s):=⟨p,s1,rS h,a,k⟩
def oB(h1:Ev f s a s)(c:Ev g s b s):Ev (dk f (aV true) g) s (a || b) s:=by
 cases a with
 | true=>exact iT h1 rfl
 | false=>exact iF h1 c
def nD(h1:Ev f s a s)(c:Ev g s b s):Ev (dk f g (aV false)) s (a&&b) s:=by
 cases a with
 | true=>exact iT h1 c
 | false=>exact iF h1 rfl
def UN(h:List aE)(a:Ao s)(ht:Ao t):jG h (enc s) (enc t)=some (.bl (eqT (AR s) (AR t))):=by
 have e1:=toT_enc h s fX (by have:=a.2;show _<1000;lia)
 have b:=toT_enc h t fX (by have:=ht.2;show _<1000;lia)
 show((toT h fX (enc s)).bind λx=>(toT h fX (enc t)).map λy=>eqT x y).map PV.bl=_
 rw[e1,b];rfl
def YB{l:List α}(h:l.isEmpty=false):0<l.length:=by
 grind
def lR{l:List α}(h:x∈l):0<l.length:=by
 grind
section
variable {ks:List Rk} (K:kz ks) (M:Nat)
abbrev SL(ks:List Rk):PV:=.lst ((pe ks).map nj)
def qW(K:kz ks):∀s∈pe ks,dA ks s:=λs a=>(Az K.ok s a).1
def vE(K:kz ks):(pe ks).length<=1000:=by
 have a:=AA K.ok;have b:=K.few
 lia
def Oj{l:List Sp}(h:∀s∈l,dA ks s):∀s∈l.filter f,dA ks s:=by grind
def S3{l:List α}(d:Ev fi s (.sq (l.map e)) s1)(g:l.length<=4000000)(c:∀a∈l,bd (bJ link s1.ρ) (e a) s1.h=some (if f a=true then some (G a)else none,s1.h)):Ev (cY false link fi bd) s (.lst ((l.filter f).map G)) s1:=by
 have z:∀l:List α,(∀a∈l,bd (bJ link s1.ρ) (e a) s1.h=some (if f a=true then some (G a)else none,s1.h))->(l.map e).filterMap (λp=>match bd (bJ link s1.ρ) p s1.h with | some (o,_)=>o | none=>none)=(l.filter f).map G:=by
  intro l;induction l with
  | nil=>exact λ_=>rfl
  | cons a l ih =>
   intro h;have i:=h a aO;have j:=ih λb c=>h b (aM _ c)
   rw[aH,s9,i,j];cases hf:f a<;>simp[List.filter_cons,hf]
 rw[<-z l c];refine cQ d (by rw[aD];exact g) λp hp=>?_
 obtain⟨a,k,rfl⟩:=az.mp hp;rw[c a k]
def S5(s:Sh):ku false [] oP (.lst (cj (lv s)))=some (.bl ((lv s).any qS)):=by
 have hd:=vd (zW s);have e:=toT_encs [] (lv s) fX (by rw[hd];decide)
 have a:Mm [] oP (cj (lv s))=some ((lv s).any qS):=by
  unfold Mm;rw[e,show toT [] fX oP=some (.aq [.str "own"])from rfl,<-Ga]
  rfl
 have e1:ku false [] oP (.lst (cj (lv s)))=(Mm [] oP (cj (lv s))).map λb=>.bl (if false=true then !b else b):=rfl
 rw[e1,a];rfl
def Ib(s t:Sp):Bool:=eqT (AR t.r.2.2.2) (AR s.r.2.2.2)&&may t.d
def Kf(K:kz ks)(b:Ao s.r.2.2.2)(c e f i j k l:Option PV):Ek (cY false [none,none,none,none,some 5] (gP (rd 3)) (lY QE QA (rd 1))) (S0 [c,e,f,some (SL ks),i,some (enc s.r.2.2.2),j,k,l]) (.lst (((pe ks).filter (Ib s)).map ck)):=by
 have m:=vE K;refine S3 (sV rfl rfl) (dn ‹_›) λt ht=>?_
 have ok:=qW K t ht;have g:Ek QA (S0 [none,some (ck t),some (enc t.r.2.2.2),some (.bl (may t.d)),some (enc s.r.2.2.2)]) (Ib s t):=nD (bT (b2 rfl rfl (UN _ (Ay ok.ok ok.row) b))) (tR rfl rfl);cases a:Ib s t with
 | true=>rw[a]at g;exact OZ rfl g rfl
 | false=>rw[a]at g;exact KI rfl g
end
def Ic{N:List Sp}(h:∀s∈N,dA ks s):jG [] (.lst (N.map ck)) (.lst [])=some (.bl N.isEmpty):=by
 have e:∀l:List Sp,(∀s∈l,dA ks s)->∃b,c9 (toT [] 999) (l.map ck)=some b/\b.length=l.length:=by
  intro l;induction l with
  | nil=>exact λ_=>⟨[],rfl,rfl⟩
  | cons s l ih =>
   intro h;obtain⟨b,f,c⟩:=ih λt ht=>h t (aM _ ht)
   obtain⟨g,j⟩:∃g,toT [] 999 (ck s)=some g:=by
    have hp:∀p:List Int,c9 (toT [] 997) (p.map PV.int)=some (p.map Tr.int):=λp=>by
     induction p with
     | nil=>rfl
     | cons i p ih=>show((c9 (toT [] 997) (p.map PV.int)).map _)=_;rw[ih];rfl
    have q:toT [] 998 (.aq (s.r.1.map PV.int))=some (.aq (s.r.1.map Tr.int)):=by
     show((c9 (toT [] 997) (s.r.1.map PV.int)).bind (Ml .aq))=_;rw[hp];rfl
    obtain⟨k,m⟩:∃k,toT [] 998 s.a=some k:=by
     have o:=(h s aO).at_
     revert o
     generalize s.a=a
     intro o;cases o<;>exact⟨_,rfl⟩
    refine⟨.aq [.str s.x,.bl (iS s.d),.aq (s.r.1.map Tr.int),k],?_⟩;show((c9 (toT [] 998) [.str s.x,.bl (iS s.d),.aq (s.r.1.map PV.int),s.a]).bind (Ml .aq))=_;simp only[c9,q,m];rfl
   refine⟨g::b,?_,by simp[c]⟩
   rw[aH];simp only[c9,j,f];rfl
 obtain⟨b,f,c⟩:=e N h;have e1:toT [] fX (.lst (N.map ck))=some (.lst b):=by
  show((c9 (toT [] 999) (N.map ck)).bind (Ml .lst))=_;rw[f];rfl
 show((toT [] fX (.lst (N.map ck))).bind λx=>(toT [] fX (.lst [])).map λy=>eqT x y).map PV.bl=_
 rw[e1];cases N with
 | nil=>cases b with
  | nil=>rfl
  | cons _ _=>simp at c
 | cons _ _=>cases b with
  | nil=>simp at c
  | cons _ _=>rfl
section
variable {ks:List Rk} (K:kz ks) (M:Nat) (fn:Nat->PV) (C:Cs)
include K in
def Kg(k:Nat)(hk:3<=k)(w:Str)(a b:Int)(x:0<(pe ks).length):∃p,Gives (run txt (k+2) "_law_carried" [.str w,.int a,.int b,SL ks] []) p/\wI fn C ks M p:=by
 rw[Ai];refine Rt.run ?_;obtain⟨s,y,B⟩:=eF (pe ks) nj a x;have ok:=qW K s y;have e:=(Ay ok.ok ok.row);have f:=lQ s.r.2.2.2 k (by have:=e.2;lia) (by have:=e.1;have:=xB s.r.2.2.2;lia)
 obtain⟨G,j⟩:=nw ((pe ks).filter (Ib s));have l:=Kf K e (some (.str w)) (some (.int a)) (some (.int b)) (some (ck s)) (some (.bl (may s.d))) none none;rw[<-j]at l;have c:∀t∈G,dA ks t:=by rw[j];exact Oj (qW K)
 obtain⟨o,ho⟩:=nw ((lv s.r.2.2.2).any qS);have m:=S5 s.r.2.2.2;rw[<-ho]at m;have D:Ev (dh (op2 bf (rd 3) (op2 gX (rd 1) (gI gA Qw))) Qy) (S0 [some (.str w),some (.int a),some (.int b),some (SL ks),none,none,none,none,none]) .nx (S0 [some (.str w),some (.int a),some (.int b),some (SL ks),some (ck s),some (enc s.r.2.2.2),some (.bl (may s.d)),none,none]):=aS (b2 rfl (b2 rfl (bV (cA rfl rfl) rfl) (du (by grind))) (B _)) rfl
 refine xS D (xS (aS l rfl) (xS (aS (b2 rfl (cb rfl rfl rfl f) m) rfl) ?_));refine xI (oB (bT (b2 rfl rfl (Ic c))) (nD (tR rfl rfl) (tR rfl rfl))) (λ_=>?_) λhc=>?_
 ·exact xR rfl rfl ⟨.KN (.n a),rfl,trivial⟩
 ·have g:=(Bool.or_eq_false_iff.mp hc).1;obtain⟨t,ht,i⟩:=eF G ck b (YB g);have q:Ek (op2 bf (rd 7) (op2 gX (rd 2) QS)) (S0 [some (.str w),some (.int a),some (.int b),some (SL ks),some (ck s),some (enc s.r.2.2.2),some (.bl (may s.d)),some (.lst (G.map ck)),some (.bl o)]) (ck t):=b2 rfl (b2 rfl (bV (cA rfl rfl) rfl) (du (by grind))) (i _)
  have u:=iO (c t ht);have v:=iO ok;refine xI (oB (tR rfl rfl) (nD (bT (b2 rfl rfl (dz _ _ _))) (nB (tR rfl rfl)))) (λ_=>?_) λ_=>?_
  ·exact xR (tU (cA rfl (cA q (cA rfl rfl))) (by simp)) (by simp[noRef,ah,u,v]) ⟨.vD t s,rfl,c t ht,ok⟩
  ·exact xR (tU (cA rfl (cA q (cA rfl rfl))) (by simp)) (by simp[noRef,ah,u,v]) ⟨.vA t s,rfl,c t ht,ok⟩
end
section
variable {ks:List Rk} (K:kz ks) (M:Nat) (fn:Nat->PV) (C:Cs)
abbrev KL(ks:List Rk):PV:=.lst (ks.map bj)
def S6(s:Sh)(w:Str)(t:Sp):Bool:=eqT (AR t.r.2.2.2) (AR s)&&(may t.d || w==(Str.ofString "lend"))
def Ol(K:kz ks)(b:Bool)(s:Sh)(c:Ao s)(w:Str)(e f i j k l:Option PV):Ek (cY false [none,none,none,none,some 6,some 7] (gP (rd 3)) (lY QE Qc (rd 1))) (S0 [e,f,i,some (SL ks),j,k,some (encK (.ho b s)),some (.str w),l]) (.lst (((pe ks).filter (S6 s w)).map ck)):=by
 have m:=vE K;refine S3 (sV rfl rfl) (dn ‹_›) λt ht=>?_
 have ok:=qW K t ht;have g:Ek Qc (S0 [none,some (ck t),some (enc t.r.2.2.2),some (.bl (may t.d)),some (encK (.ho b s)),some (.str w)]) (S6 s w t):=nD (bT (b2 rfl (b2 rfl rfl rfl) (UN _ (Ay ok.ok ok.row) c))) (oB (tR rfl rfl) (bT (b2 rfl rfl (dz _ _ _))));cases a:S6 s w t with
 | true=>rw[a]at g;exact OZ rfl g rfl
 | false=>rw[a]at g;exact KI rfl g
def Kh(K:kz ks)(b c d e f i j k:Option PV):Ek (cY false [none,none] (gP (rd 2)) (lY (aX 1) Qs (rd 1))) (S0 [b,c,some (KL ks),d,e,f,i,j,k]) (.lst ((ks.filter λq=>iS q.2).map bj)):=by
 have l:=K.few;refine S3 (sV rfl rfl) (dn ‹_›) λq m=>?_
 have g:Ek Qs (S0 [none,some (bj q)]) (iS q.2):=bT (b2 (b2 (b2 rfl rfl rfl) rfl (qp _ q.2)) rfl (vt _ q.2));cases a:iS q.2 with
 | true=>rw[a]at g;exact OZ rfl g rfl
 | false=>rw[a]at g;exact KI rfl g
include K in
def Ki(k:Nat)(a b:Int)(H:∃q∈ks,iS q.2=true):∃p,Gives (run txt (k+1) "_law_lending" [.int a,.int b,KL ks,SL ks] []) p/\wI fn C ks M p:=by
 rw[Aj];refine Rt.run ?_;obtain⟨N,g,i⟩:=H;have I:0<(ks.filter λq=>iS q.2).length:=lR (gC.mpr ⟨g,i⟩)
 obtain⟨q,J,u⟩:=eF (ks.filter λq=>iS q.2) bj a I
 obtain⟨c,j⟩:=gC.mp J;have v:0<(((ks.filter λq=>iS q.2).map bj).length:Int):=by grind
 obtain⟨G,L⟩:=nw ((ks.filter λq=>iS q.2).map bj)
 have B:=Kh K (some (.int a)) (some (.int b)) (some (SL ks)) none none none none none;rw[<-L]at B u v;obtain⟨x,d⟩:=q;cases d with
 | ow s=>cases j
 | ho e s =>
  obtain⟨w,hw,l,e1⟩:∃w:Str,w=lw e/\(may (.ho e s) || w==(Str.ofString "lend"))=true/\Ek (op2 bf (kU .lst (aj (kS "lend") Q8)) (gI Jb (aj (op2 jG (op2 bf (rd 6) (kI 0)) (kS "sole")) (aV [])))) (S0 [some (.int a),some (.int b),some (KL ks),some (SL ks),some (.lst G),some (.str x),some (encK (.ho e s)),none,none]) (.str w):=by
   cases e with
   | true=>exact⟨"sole",rfl,by show(!((Str.ofString "sole")==(Str.ofString "lent")) || _)=true;decide +kernel,b2 (y:=.int 1) rfl (bV (cA (b2 (b2 rfl rfl (qp _ _)) rfl (dz _ _ _)) rfl) (by kernel_rfl)) rfl⟩
   | false=>exact⟨"lend",rfl,by grind,b2 (y:=.int 0) rfl (bV (cA (b2 (b2 rfl rfl (qp _ _)) rfl (dz _ _ _)) rfl) (by kernel_rfl)) rfl⟩
  have D:=Ol K e s (K.ok _ c) w (some (.int a)) (some (.int b)) (some (KL ks)) (some (.lst G)) (some (.str x)) none;obtain⟨T,f⟩:=nw ((pe ks).filter (S6 s w));have E:∀t∈T,dA ks t:=by rw[f];exact Oj (qW K)
  have m:∀t∈T,s=t.r.2.2.2:=by rw[f];exact λt ht=>(AB _ _ (gQ.mp (gC.mp ht).2).1).symm
  rw[<-f]at D;obtain⟨t,ht,o⟩:=eF T ck b (by
   rw[f];refine lR (gC.mpr ⟨vw c,?_⟩);show(eqT (AR s) (AR s)&&(may (.ho e s) || _))=true;rw[kX,l];rfl)
  refine xS (aS B rfl) (xS (aS (b2 rfl (b2 rfl (bV (cA rfl rfl) rfl) (du v)) (u _)) rfl) (xS (aS e1 rfl) (xS (aS D rfl) (xR (tU (cA rfl (cA rfl (cA (b2 rfl (b2 rfl (bV (cA rfl rfl) rfl) (du (by grind))) (o _)) rfl))) (by simp)) (by simp[noRef,ah,iO (E t ht)]) ⟨.oT x e t,by rw[hw];rfl,E t ht,m t ht▸c⟩))))
end
def S7{N:List Sp}(h:∀s∈N,dA ks s):KA [] (.lst (N.map ck)) (.lst [])=some (.bl (!N.isEmpty)):=by
 have e:=Ic h;have e1:∀o:Option Bool,o.map PV.bl=some (.bl N.isEmpty)->(o.map λb=>PV.bl !b)=some (.bl (!N.isEmpty)):=λo ho=>by
  simp_all
 exact e1 _ e
section
variable {ks:List Rk} (K:kz ks) (M:Nat) (fn:Nat->PV) (C:Cs)
include K in
def S8(k:Nat)(w:Str)(a:Int)(ho:eX ks o)(hw:w≠"drop"/\w≠"fill"):∃p,Gives (run txt (k+1) "_law_small_row" [.str w,.int a,gu o,SL ks] []) p/\wI fn C ks M p:=by
 rw[u3];refine Rt.run ?_;have i:=vE K;refine xI (bT (b2 rfl rfl (dz _ _ _))) (λz=>absurd (bu z) hw.1) λ_=>?_
 have b:Ek (cY false [none,none,none,none] (gP (rd 3)) (lY QE Qq (rd 1))) (S0 [some (.str w),some (.int a),some (gu o),some (SL ks),none,none]) (.lst (((pe ks).filter λt=>J9 t.r.2.2.2&&may t.d).map ck)):=by
  refine S3 (sV rfl rfl) (dn ‹_›) λt ht=>?_
  have g:Ek Qq (S0 [none,some (ck t),some (enc t.r.2.2.2),some (.bl (may t.d))]) (J9 t.r.2.2.2&&may t.d):=nD (bT (b2 (b2 rfl rfl (qR _ _)) rfl (UM _ _))) (tR rfl rfl);cases c:(J9 t.r.2.2.2&&may t.d)with
  | true=>rw[c]at g;exact OZ rfl g rfl
  | false=>rw[c]at g;exact KI rfl g
 obtain⟨T,e⟩:=nw ((pe ks).filter λt=>J9 t.r.2.2.2&&may t.d)
 have f:∀t∈T,dA ks t:=by rw[e];exact Oj (qW K)
 rw[<-e]at b;exact xS (aS b rfl) (xI (nD (bT (b2 rfl rfl (dz _ _ _))) (bT (b2 rfl rfl (S7 f)))) (λz=>absurd (bu (gQ.mp z).1) hw.2) λ_=>xR (tU (cA rfl (cA rfl rfl)) (by simp)) (by simp[noRef,ah,eX.nr ho]) ⟨.KN o,rfl,ho⟩)
end
def lC(h:Ev ts s ps s1)(a:ps.length<=4000000):Ev (zc ts) s (.ref s1.h.length) ⟨s1.ρ,s1.h++[⟨.lst,ps⟩]⟩:=eB h (eB (by show(small ps PV.cf).map _=_;rw[show small ps PV.cf=some .cf from if_pos a];rfl) rfl)
structure YC (C:Cs) (ks:List Rk) (LK OT OW:List Rk) (BK:List (Option Rk)):Prop where
 lk:(∀r∈LK,r∈ks/\r.2=C.d4)/\0<LK.length
 ot:(∀r∈OT,r∈ks/\r.2=C.d5)/\0<OT.length
 ow:(∀r∈OW,r∈ks/\r.2=C.d1)/\0<OW.length
 bk:(∀o∈BK,(∀r,o=some r->r∈ks)/\o.map (·.2)=C.r1)/\0<BK.length
section
variable {ks:List Rk} (K:kz ks) (M:Nat) (fn:Nat->PV) (C:Cs)
def UO(a b:Int)(c d e f:PV)(L T O B:List PV)(pl:Int)(x:Option PV)(h:List aE):dB:=⟨[some (.int a),some (.int b),some c,some (.lst [d,e,f]),some (.lst L),some (.lst T),some (.lst O),some (.lst B),some (.int pl),x],h⟩
include K in
theorem YD(k:Nat)(a b:Int)(Lp:∀j,noRef (fn j)=true)(Q:YC C ks w OT y BK)(hp:0<=C.pl/\C.pl<6):∃p,Gives (run txt (k+1) "_law_call" [.int a,.int b,.aq [.lst [fn 0,fn 1,fn 2],.lst (w.map je),.lst (OT.map je),.lst (y.map je),.lst (BK.map KO),.int C.pl]] []) p/\wI fn C ks M p:=by
 rw[JU];refine Rt.run ?_;obtain⟨d,c,D⟩:=eF w je b Q.lk.2;obtain⟨q,Wm,E⟩:=eF y je (b/8) Q.ow.2;obtain⟨t,H,I⟩:=eF OT je (b/8) Q.ot.2;obtain⟨o2,J,N⟩:=eF y je (b/64) Q.ow.2;obtain⟨l2,Mj,R⟩:=eF w je (a/4) Q.lk.2;obtain⟨k1,X,Y⟩:=eF BK KO (a/4) Q.bk.2;have zl:0<((w.map je).length:Int):=by grind
 have zo:0<((y.map je).length:Int):=by grind
 have zt:0<((OT.map je).length:Int):=by grind
 have zk:0<((BK.map KO).length:Int):=by grind
 have l:=Q.lk.1;have u:=Q.ow.1;have hT:=Q.ot.1;have hB:=Q.bk.1;obtain⟨e,e0⟩:=nw (fn 0);obtain⟨f,e1⟩:=nw (fn 1);obtain⟨g,e2⟩:=nw (fn 2);have n0:noRef e=true:=by grind
 have n1:noRef f=true:=by grind
 have n2:noRef g=true:=by grind
 rw[<-e0,<-e1,<-e2];obtain⟨pl,i⟩:=nw C.pl;rw[<-i]at hp ⊢;obtain⟨L,eL⟩:=nw (w.map je);obtain⟨O,eO⟩:=nw (y.map je);obtain⟨T,eT⟩:=nw (OT.map je);obtain⟨B,eB⟩:=nw (BK.map KO);rw[<-eL]at D R zl;rw[<-eO]at E N zo;rw[<-eT]at I zt;rw[<-eB]at Y zk;rw[<-eL,<-eO,<-eT,<-eB];obtain⟨m,Z⟩:=nw (PV.aq [.lst [e,f,g],.lst L,.lst T,.lst O,.lst B,.int pl]);rw[<-Z];have d4:∀v x h,Ek (toB (op2 jG (op2 gX (rd 0) (kI 4)) (aV (.int v)))) (UO a b m e f g L T O B pl x h) (a%4==v):=λv x h=>bT (b2 (b2 rfl rfl (du (by decide))) rfl (lu _ _ _))
 refine xS (by rw[Z];rfl) (xI (d4 0 none []) (λ_=>?_) λ_=>?_)
 ·exact xR rfl (by simp[noRef,ah,n0]) ⟨.call none 0 [],by rw[e0];rfl,by decide,rfl,rfl,(λ_ h=>nomatch h),by grind⟩
 have pkL:∀x h,Ek (op2 bf (rd 4) (op2 gX (rd 1) (gI gA (aj (rd 4) (aV []))))) (UO a b m e f g L T O B pl x h) (je d):=λx h=>b2 rfl (b2 rfl (bV (cA rfl rfl) rfl) (du zl)) (D _)
 have pkO:∀x h,Ek (op2 bf (rd 6) (op2 gX (op2 jF (rd 1) (kI 8)) (gI gA QJ))) (UO a b m e f g L T O B pl x h) (je q):=λx h=>b2 rfl (b2 (b2 rfl rfl (Av (by decide))) (bV (cA rfl rfl) rfl) (du zo)) (E _)
 have pkT:∀x h,Ek (op2 bf (rd 5) (op2 gX (op2 jF (rd 1) (kI 8)) (gI gA (aj (rd 5) (aV []))))) (UO a b m e f g L T O B pl x h) (je t):=λx h=>b2 rfl (b2 (b2 rfl rfl (Av (by decide))) (bV (cA rfl rfl) rfl) (du zt)) (I _)
 refine xS (aS (lC (cA (pkL none []) (cA (pkO none []) rfl)) (by simp)) rfl) ?_
 refine xI (d4 1 _ _) (λ_=>?_) λ_=>?_
 ·have d2:Ek (toB (op2 jG (op2 gX (rd 8) (kI 2)) (kI 1))) (UO a b m e f g L T O B pl (some (.ref 0)) [⟨.lst,[je d,je q]⟩]) (pl%2==1):=bT (b2 (b2 rfl rfl (du (by decide))) rfl (lu _ _ _))
  have fin:∀(r1 r2:Rk),r1∈ks->r2∈ks->[r1.2,r2.2]=pk C 1->Rt (wI fn C ks M) (retS (kU .aq (aj (kS "call") (aj (op2 bf (rd 7) (op2 gX (op2 jF (rd 0) (kI 4)) QS)) (aj Qx (aj (gI Ja (aj (rd 9) (aV []))) (aV [])))))) (UO a b m e f g L T O B pl (some (.ref 0)) [⟨.lst,[je r1,je r2]⟩])):=by
   intro r1 r2 h1 h2 h3;refine xR (tU (cA rfl (cA (b2 rfl (b2 (b2 rfl rfl (Av (by decide))) (bV (cA rfl rfl) rfl) (du zk)) (Y _)) (cA (b2 rfl rfl rfl) (cA (bV rfl rfl) rfl)))) (by simp)) (by simp[noRef,ah,n1]) ⟨.call k1 1 [r1,r2],by rw[e1];rfl,by decide,(hB k1 X).2,h3,(λr hr=>?_),by simp,(hB k1 X).1⟩
   simp only[aW,fw,fA]at hr;rcases hr with rfl | rfl
   ·exact h1
   ·exact h2
  cases hb:(pl%2==1)with
  | true =>
   rw[hb]at d2;exact xS (iT d2 rfl) (fin q d (u _ Wm).1 (l _ c).1 (by rw[(u _ Wm).2,(l _ c).2];show _=(if C.pl%2=1 then _ else _);rw[<-i,if_pos (bu hb)]))
  | false =>
   rw[hb]at d2;exact xS (iF d2 rfl) (fin d q (l _ c).1 (u _ Wm).1 (by rw[(u _ Wm).2,(l _ c).2];show _=(if C.pl%2=1 then _ else _);rw[<-i,if_neg (λz=>by rw[z]at hb;cases hb)]))
 ·refine xS (aS (lC (cA (pkL _ _) (cA (pkT _ _) rfl)) (by simp)) rfl) ?_
  obtain⟨j,hj,hj2⟩:∃j:Nat,pl/2=j/\j<=2:=⟨(pl/2).toNat,by lia,by lia⟩
  have agl:Ev (gj (zD "list" (k0 (iB Mt)) (rd 9) (aj (op2 jF (rd 8) (kI 2)) (aj (op2 bf (rd 6) (op2 gX (op2 jF (rd 1) (kI 64)) (gI gA QJ))) (aV []))))) (UO a b m e f g L T O B pl (some (.ref 1)) [⟨.lst,[je d,je q]⟩,⟨.lst,[je d,je t]⟩]) .nx (UO a b m e f g L T O B pl (some (.ref 1)) [⟨.lst,[je d,je q]⟩,⟨.lst,([d,t].take j++o2::[d,t].drop j).map je⟩]):=by
   refine dS (p:=.cf) (sx (as:=[.int (j:Int),je o2]) rfl rfl (cA (b2 rfl rfl (by rw[<-hj];exact Av (by decide))) (cA (b2 rfl (b2 (b2 rfl rfl (Av (by decide))) (bV (cA rfl rfl) rfl) (du zo)) (N _)) rfl)) ?_)
   have:j=0\/j=1\/j=2:=by lia
   rcases this with rfl | rfl | rfl<;>rfl
  refine xS agl ?_;obtain⟨ar,har⟩:=nw ([d,t].take j++o2::[d,t].drop j);rw[<-har];have o:(∀r∈ar,r∈ks)/\ar.length<=4/\ar.map (·.2)=pk C 2:=by
   have:j=0\/j=1\/j=2:=by lia
   rcases this with rfl | rfl | rfl
   all_goals
    rw[har];refine⟨λr hr=>?_,by simp,?_⟩
    rotate_left
    ·show _=[C.d4,C.d5].take (C.pl/2).toNat++C.d1::[C.d4,C.d5].drop (C.pl/2).toNat;rw[<-i,hj];simp[(u _ J).2,(l _ c).2,(hT _ H).2]
    simp at hr;rcases hr with rfl | rfl | rfl
    all_goals first | exact(l _ c).1 | exact(hT _ H).1 | exact(u _ J).1
  exact xR (tU (cA rfl (cA (b2 rfl (b2 (b2 rfl rfl (Av (by decide))) (bV (cA rfl rfl) rfl) (du zl)) (R _)) (cA (b2 rfl rfl rfl) (cA (bV rfl rfl) rfl)))) (by simp)) (by simp[noRef,ah,n2,gw]) ⟨.call (some l2) 2 ar,by rw[e2];rfl,by decide,by show some l2.2=some C.d4;rw[(l _ Mj).2],o.2.2,o.1,o.2.1,λr hr=>by cases hr;exact(l _ Mj).1⟩
end
def S9(m:Int):∃y:Str,∀h,bf h (.str "+-*") (.int (m%3))=some (.str y):=by
 have:m%3=0\/m%3=1\/m%3=2:=by lia
 rcases this with h | h | h<;>rw[h]
 ·exact⟨"+",λ_=>by kernel_rfl⟩
 ·exact⟨"-",λ_=>by kernel_rfl⟩
 ·exact⟨"*",λ_=>by kernel_rfl⟩
def Ta(h:List aE)(w a b:Str):ku false h (.str w) (.aq [.str a,.str b])=some (.bl (a==w || (b==w || false))):=rfl
def Om{N:List Sp}(u:N.length<=1000)(e f i j k l m o p q r b c:Option PV):Ek (cY false [none,none,none] (gP (rd 6)) (lY Qk (eH (rd 2)) (rd 1))) (S0 [e,f,i,j,k,l,some (.lst (N.map lx)),m,o,p,q,r,b,c]) (.lst ((N.filter λt=>may t.d).map ck)):=by
 refine S3 (sV rfl rfl) (dn ‹_›) λs v=>?_
 have g:Ek (eH (rd 2)) (S0 [none,some (ck s),some (.bl (may s.d))]) (may s.d):=tR rfl rfl;cases a:may s.d with
 | true=>rw[a]at g;exact OZ (by rw[<-a];rfl) g rfl
 | false=>rw[a]at g;exact KI (by rw[<-a];rfl) g
abbrev mdT(W:List Str)(ks:List Rk)(x:Str)(dg:Int)(a b:PV):PV:=.aq [.lst (W.map .str),KL ks,SL ks,.lst ((Yu ks x dg).map lx),a,b]
abbrev caT(fn:Nat->PV)(a b c:List Rk)(d:List (Option Rk))(pl:Int):PV:=.aq [.lst [fn 0,fn 1,fn 2],.lst (a.map je),.lst (b.map je),.lst (c.map je),.lst (d.map KO),.int pl]
def acu(k:Nat)(hk:3<=k)(K:kz ks)(hM:0<M)(hW:0<W.length/\∀w∈W,w≠Str.ofString "drop"/\w≠"fill")(hx:(x,Kn.ow .num)∈ks)(hh:∃q∈ks,iS q.2=true)(dg:Int)(Lp:∀j,noRef (fn j)=true)(Q:YC C ks LK OT OW BK)(hp:0<=C.pl/\C.pl<6)(I:noRef e=true)(J:wI fn C ks M e)(c:Int) :
  ∃p,Gives (run txt (k+3) "_law_row" [.int c,.int (M:Int),mdT W ks x dg (caT fn LK OT OW BK C.pl) e] []) p/\wI fn C ks M p:=by
 obtain⟨L,n2,n3⟩:=Gk K hx dg;obtain⟨tm,R,X⟩:=n3;obtain⟨N,hN⟩:=nw (Yu ks x dg);rw[<-hN]at L n2 R;have m:=lR R;have h0:=lR (vw hx);obtain⟨w,hv,Y⟩:=eF W PV.str (J2 c 0) hW.1;obtain⟨a,ha⟩:=nw (J2 c 1);obtain⟨b,hb⟩:=nw (J2 c 2);have ma:=oQ (k+1) c (i:=1) (by decide)
 have mb:=oQ (k+1) c (i:=2) (by decide)
 have m0:=oQ (k+1) c (i:=0) (by decide)
 rw[<-ha]at ma;rw[<-hb]at mb;obtain⟨one,e1,o⟩:=xU (k+1) L m c b;obtain⟨two,e2,o2⟩:=xU (k+1) L m (c/7) a;obtain⟨pc,c1,c2⟩:=Kg K M fn C k hk w a b h0;obtain⟨pl',l1,l2⟩:=Ki K M fn C (k+1) a b hh;obtain⟨pq,q1,q2⟩:=YD K M fn C (k+1) a b Lp Q hp;obtain⟨ps,s1,s2⟩:=S8 K M fn C (k+1) w a o (hW.2 w hv);obtain⟨T,hT⟩:=nw (N.filter λt=>may t.d)
 have TU:∀t∈T,dA ks t:=by
  grind
 obtain⟨t,ht,Z⟩:=eF T ck a (by rw[hT];exact lR (gC.mpr ⟨R,X⟩))
 have t1:=TU t ht;obtain⟨pm,hpm⟩:=S9 b;obtain⟨j,hj,u⟩:∃j:Nat,a%M=j/\j<M:=⟨(a%M).toNat,by
  have:=mP a (show(M:Int)≠0 by lia)
  lia,by
  have:=yk a (show(0:Int)<(M:Int) by lia)
  have:=mP a (show(M:Int)≠0 by lia)
  lia⟩
 have gm:∀h,gX h (.int a) (.int (M:Int))=some (iN j):=λh=>by
  unfold iN;rw[<-hj];exact du (by lia)
 unfold mdT;rw[<-hN];obtain⟨B,hCA⟩:=nw (caT fn LK OT OW BK C.pl);rw[<-hCA];obtain⟨md,Zv⟩:=nw (PV.aq [.lst (W.map .str),KL ks,SL ks,.lst (N.map lx),B,e]);rw[NI];refine Rt.run ?_;have a0:Ev (dh (rd 2) (jZ 6 (eP (aX 3) Q6))) (S0 [some (.int c),some (.int (M:Int)),some md,none,none,none,none,none,none,none,none,none,none,none]) .nx (S0 [some (.int c),some (.int (M:Int)),some md,some (.lst (W.map .str)),some (KL ks),some (SL ks),some (.lst (N.map lx)),some B,some e,none,none,none,none,none]):=by rw[Zv];exact aS rfl rfl
 rw[<-Zv];have oc:=Om n2 (some (.int c)) (some (.int (M:Int))) (some md) (some (.lst (W.map .str))) (some (KL ks)) (some (SL ks)) (some B) (some e) (some (.int a)) (some (.int b)) (some (.str w)) none none;rw[<-hT]at oc;have nc:∀s:dB,s.h=[]->∀as:List PV,(s.h.isEmpty || ah as)=true:=λs h as=>by rw[h];rfl
 obtain⟨S,hS⟩:=nw (S0 [some (.int c),some (.int (M:Int)),some md,some (.lst (W.map .str)),some (KL ks),some (SL ks),some (.lst (N.map lx)),some B,some e,some (.int a),some (.int b),some (.str w),some (.lst (T.map ck)),some (gu one)]);refine xS a0 (xS (aS (cb (cA rfl (cA rfl rfl)) rfl rfl ma) rfl) (xS (aS (cb (cA rfl (cA rfl rfl)) rfl rfl mb) rfl) (xS (aS (b2 (x:=.lst (W.map .str)) rfl (b2 (cb (cA rfl (cA rfl rfl)) rfl rfl m0) (bV (as:=[.lst (W.map .str)]) (cA rfl rfl) rfl) (du (by grind))) (Y _)) rfl) (xS (aS oc rfl) (xS (s1:=S) (aS (cb (cA rfl (cA rfl (cA rfl rfl))) rfl rfl e1) (by rw[hS];rfl)) ?_)))))
 have f:∀v:Str,Ev (toB (op2 jG (rd 11) (aV (.str v)))) S (w==v) S:=λv=>by rw[hS];exact bT (b2 rfl rfl (dz _ _ _))
 have ot:Ev (op2 bf (rd 12) (op2 gX (rd 9) (gI gA (aj (rd 12) (aV []))))) S (ck t) S:=by rw[hS];exact b2 (x:=.lst (T.map ck)) rfl (b2 (x:=.int a) rfl (bV (as:=[.lst (T.map ck)]) (cA rfl rfl) rfl) (du (by grind))) (Z _)
 have g:Ev (rd 9) S (.int a) S:=by rw[hS];rfl
 have D:Ev (rd 10) S (.int b) S:=by rw[hS];rfl
 have E:Ev (rd 1) S (.int (M:Int)) S:=by rw[hS];rfl
 have so:Ev (rd 13) S (gu one) S:=by rw[hS];rfl
 have sh:(S.h.isEmpty)=true:=by rw[hS];rfl
 have cl:∀as:List PV,(S.h.isEmpty || ah as)=true:=λas=>by rw[sh];rfl
 have l:Ev (rd 11) S (.str w) S:=by rw[hS];rfl
 have r4:Ev (rd 4) S (KL ks) S:=by rw[hS];rfl
 have r5:Ev (rd 5) S (SL ks) S:=by rw[hS];rfl
 have r6:Ev (rd 6) S (.lst (N.map lx)) S:=by rw[hS];rfl
 have r7:Ev (rd 7) S B S:=by rw[hS];rfl
 have r8:Ev (rd 8) S e S:=by rw[hS];rfl
 have r0:Ev (rd 0) S (.int c) S:=by rw[hS];rfl
 have nS:noRef (ck t)=true:=iO t1;have nO:noRef (gu one)=true:=eX.nr o;have nO2:noRef (gu two)=true:=eX.nr o2;have H:∀p,wI fn C ks M p->noRef p=true:=λp ⟨r,h1,h2⟩=>by rw[h1];exact Dd Lp r h2
 refine xI (f "put") (λ_=>?_) λ_=>?_
 ·exact xR (tU (ps:=[.str "put",ck t,gu one]) (cA rfl (cA ot (cA so rfl))) (by simp)) (by simp[noRef,ah,nS,nO]) ⟨.put t one,rfl,t1,o⟩
 refine xI (f "set") (λ_=>?_) λ_=>?_
 ·exact xR (tU (ps:=[.str "set",ck t,.str pm,gu one,gu two]) (cA rfl (cA ot (cA (b2 (x:=.str "+-*") rfl (b2 D rfl (du (by decide))) (hpm _)) (cA so (cA (cb (cA (b2 r0 rfl (Av (by decide))) (cA g (cA r6 rfl))) rfl (cl _) e2) rfl))))) (by simp)) (by simp[noRef,ah,nS,nO,nO2]) ⟨.set t pm one two,rfl,t1,o,o2⟩
 refine xI (bT (b2 (x:=.str w) (y:=.aq [.str "copy",.str "move"]) l rfl (Ta _ _ _ _))) (λ_=>?_) λ_=>?_
 ·exact xR (cb (cA l (cA g (cA D (cA r5 rfl)))) rfl (cl _) c1) (H _ c2) c2
 refine xI (f "lend") (λ_=>?_) λ_=>?_
 ·exact xR (cb (cA g (cA D (cA r4 (cA r5 rfl)))) rfl (cl _) l1) (H _ l2) l2
 refine xI (f "call") (λ_=>?_) λ_=>?_
 ·exact xR (cb (cA g (cA D (cA r7 rfl))) rfl (cl _) (by grind)) (H _ q2) q2
 refine xI (f "give") (λ_=>?_) λ_=>?_
 ·exact xR r8 I J
 refine xI (f "go") (λ_=>?_) λ_=>?_
 ·exact xR (tU (ps:=[.str "go",iN j]) (cA rfl (cA (b2 g E (gm _)) rfl)) (by simp)) rfl ⟨.go j,rfl,u⟩
 refine xI (f "if") (λ_=>?_) λ_=>?_
 ·exact xR (tU (ps:=[.str "if",gu one,.int (b%97),iN j]) (cA rfl (cA so (cA (b2 D rfl (du (by decide))) (cA (b2 g E (gm _)) rfl)))) (by simp)) (by simp[noRef,ah,nO,iN]) ⟨.Gn one (b%97) j,rfl,o,u⟩
 ·exact xR (cb (cA l (cA g (cA so (cA r5 rfl)))) rfl (cl _) s1) (H _ s2) s2
def mC(a:List Int)(i:Nat):Int:=J2 (cell a (1+i)) (i%4)
abbrev NM(C:Int):PV:=.lst (nmL C 13)
abbrev CE(a:List Int):PV:=.lst ((List.range 7).map λi=>.int (mC a i))
def Kj(a:List Int):List Sh:=[.num,jv (mC a 0),jv (mC a 1),jv (mC a 2)]
abbrev OE(a:List Int):PV:=.lst ((Kj a).map enc)
def Oo(C:Int){q:Nat}(h:q<13)(H:List aE):bf H (NM C) (.int (q:Int))=some (.str (jM C q)):=atI_nat (by unfold nmL;rw[cw,sZ h];rfl)
def UQ(a:List Int){q:Nat}(h:q<7)(H:List aE):bf H (CE a) (.int (q:Int))=some (.int (mC a q)):=atI_nat (by rw[cw,sZ h];rfl)
def YE(b:List Int):∀s∈Kj b,cZ s:=λs a=>by
 simp only[Kj,aW,fw,fA]at a;rcases a with rfl | rfl | rfl | rfl
 ·exact N6
 ·exact lP _
 ·exact lP _
 ·exact lP _
noncomputable def YF(S:Option PV)(a:PV)(i:Nat)(CC b:PV)(acc:List PV)(c d:Option PV):dB:=⟨[S,some a,some (.int (i:Int)),some CC,some b,some (.ref 0),c,d],[⟨.lst,acc⟩]⟩
def oU(k:Nat)(hk:3<=k)(C:Int)(a:List Int)(S:Option PV)(Q:i<4)(acc:List PV)(R:acc.length<=100)(v w:Option PV):∃(d:Kn) (x y:Option PV),Ev (JS (run txt (k+1))) (YF S (NM C) i (CE a) (OE a) acc v w) .nx (YF S (NM C) i (CE a) (OE a) (acc++[bj (jM C (4+i),d)]) x y)/\iS d=true/\cZ (held d):=by
 obtain⟨m,B⟩:=nw (mC a (3+i));have hc:=UQ a (q:=3+i) (by lia)
 rw[<-B]at hc;obtain⟨CC,c⟩:=nw (CE a);rw[<-c]at hc;rw[<-c];have j:=Oo C (q:=4+i) (by lia)
 obtain⟨D,l⟩:=nw (NM C);rw[<-l]at j;rw[<-l];have E:∀h,eQ h (.int 3) (.int i)=some (.int (3+i:Nat)):=λ_=>dO (λz=>some (PV.int z)) (by lia)
 have H:∀h,eQ h (.int 4) (.int i)=some (.int (4+i:Nat)):=λ_=>dO (λz=>some (PV.int z)) (by lia)
 obtain⟨s,I,o⟩:∃s∈Kj a,∀h,bf h (OE a) (.int (1+m%3))=some (enc s):=by
  have:m%3=0\/m%3=1\/m%3=2:=by lia
  rcases this with h | h | h
  ·rw[h];exact⟨jv (mC a 0),by simp[Kj],λ_=>(atI_nat rfl:L2.mX ((Kj a).map enc) 1=_)⟩
  ·rw[h];exact⟨jv (mC a 1),by simp[Kj],λ_=>(atI_nat rfl:L2.mX ((Kj a).map enc) 2=_)⟩
  ·rw[h];exact⟨jv (mC a 2),by simp[Kj],λ_=>(atI_nat rfl:L2.mX ((Kj a).map enc) 3=_)⟩
 have fs:=YE a s I;obtain⟨J,e⟩:=nw (OE a);rw[<-e]at o;rw[<-e];have hp:=Ax s k (by have:=fs.1.1.2;lia) (by have:=fs.1.1.1;lia)
 obtain⟨r,hr,f⟩:=eF (tab s) me (m/9) (HA s);have p:0<(((tab s).map me).length:Int):=by grind
 obtain⟨T,L⟩:=nw ((tab s).map me);rw[<-L]at hp f p;obtain⟨b,M⟩:∃b:Bool,∀h,bf h (.lst [.str "lent",.str "sole",.str "sole"]) (.int (m/3%3))=some (.str (hw b)):=by
  have:m/3%3=0\/m/3%3=1\/m/3%3=2:=by lia
  rcases this with h | h | h
  ·rw[h];exact⟨false,λ_=>rfl⟩
  ·rw[h];exact⟨true,λ_=>rfl⟩
  ·rw[h];exact⟨true,λ_=>rfl⟩
 refine⟨.ho b r.2.2.2,some (.lst T),some (.str (hw b)),?_,rfl,N7 fs hr⟩;have g:∀(t u:Option PV),Ek (op2 bf (rd 3) (op2 eQ (kI 3) (rd 2))) (YF S D i CC J acc t u) (.int m):=λt u=>b2 rfl (b2 rfl rfl (E _)) (hc _)
 refine sq (aS (cb (cA (b2 rfl (b2 rfl (b2 (g _ _) rfl (du (by decide))) rfl) (o _)) rfl) rfl (by simp[ah,dH]) hp) rfl) (sq (aS (b2 rfl (b2 (b2 (g _ _) rfl (Av (by decide))) rfl (du (by decide))) (M _)) rfl) ?_)
 have N:∀h,gA h [.lst T]=some (.int (T.length:Int)):=λ_=>rfl
 exact dS (sx rfl rfl (cA (tU (cA (b2 rfl (b2 rfl rfl (H _)) (j _)) (cA (tU (cA rfl (cA (b2 (b2 rfl (b2 (b2 (g _ _) rfl (Av (by decide))) (bV (cA rfl rfl) (N _)) (du p)) (f _)) rfl rfl) rfl)) (by simp)) rfl)) (by simp)) rfl) (aC rfl (by lia)))
abbrev ltL(C:Int)(a:List Int)(d4 d5 b c:Kn):List Rk:=[(jM C 0,.ow .num),(jM C 1,.ow (jv (mC a 0))),(jM C 2,.ow (jv (mC a 1))),(jM C 3,.ow (jv (mC a 2))),(jM C 4,d4),(jM C 5,d5),(jM C 6,b),(jM C 7,c)]
theorem vF:∀l:List Rk,ah (l.map bj)=true
 | []=>rfl
 | r::l=>by rw[aH];simp[ah,noRef,bj,sE,vF l]
def YG(k:Nat)(hk:3<=k)(C:Int)(a:List Int):∃d4 d5 c d:Kn,Gives (run txt (k+2) "_law_lets" [JH a,NM C] []) (.lst ((ltL C a d4 d5 c d).map bj))/\(iS d4=true/\cZ (held d4))/\(iS d5=true/\cZ (held d5))/\(iS c=true/\cZ (held c))/\(iS d=true/\cZ (held d)):=by
 obtain⟨S,hS⟩:=nw (JH a);have I:∀i:Nat,Gives (run txt (k+1) "_law_cell_at" [S,.int i] []) (.int (cell a i)):=λi=>by rw[hS];exact N1 k a i
 obtain⟨b,m⟩:=nw (([(jM C 0,.ow .num),(jM C 1,.ow (jv (mC a 0))),(jM C 2,.ow (jv (mC a 1))),(jM C 3,.ow (jv (mC a 2)))].map bj));have J:b.length=4:=by rw[m];rfl
 obtain⟨d4,o,p,L,M⟩:=oU k hk C a (some S) (i:=0) (by decide) b (by lia) none none
 obtain⟨d5,r,t,N,Q⟩:=oU k hk C a (some S) (i:=1) (by decide) (b++[bj (jM C 4,d4)]) (by simp;lia) o p
 obtain⟨c,u,v,R,T⟩:=oU k hk C a (some S) (i:=2) (by decide) (b++[bj (jM C 4,d4)]++[bj (jM C 5,d5)]) (by simp;lia) r t
 obtain⟨d,v6,v7,w,X⟩:=oU k hk C a (some S) (i:=3) (by decide) (b++[bj (jM C 4,d4)]++[bj (jM C 5,d5)]++[bj (jM C 6,c)]) (by simp;lia) u v
 refine⟨d4,d5,c,d,?_,M,Q,T,X⟩;rw[JT,<-hS];have Y:Ek (cY false [none,none,some 0] (He (wc uG (aj (kI 7) (aV [])))) (kx (aX 1) (bnd (aj (bnd (aj (rd 2) (aj (op2 eQ (kI 1) (rd 1)) (aV []))) (bD 0 2 (run txt (k+1) "_law_cell_at"))) (aj (op2 gX (rd 1) (kI 4)) (aV []))) (bD 0 2 (run txt (k+1) "_law_mixed"))))) (S0 [some S,some (NM C),none,none,none,none,none,none]) (CE a):=by
  refine cM (kn (cA rfl rfl) (ji _ _)) (by simp) λi e=>?_
  have f:lO i=iN i:=by unfold lO iN;rw[kK]
  rw[f];have h1:∀h,eQ h (.int 1) (.int i)=some (.int (1+i:Nat)):=λ_=>dO (λz=>some (PV.int z)) (by lia)
  have Z:∀h,gX h (.int i) (.int 4)=some (.int (i%4:Nat)):=λh=>by
   rw[du (by decide)]
   exact dO (λz=>some (PV.int z)) (by lia)
  exact e1 rfl (cb (cA (cb (cA rfl (cA (b2 rfl rfl (h1 _)) rfl)) rfl rfl (I (1+i))) (cA (b2 rfl rfl (Z _)) rfl)) rfl rfl (oQ k (cell a (1+i)) (by lia)))
 have c3:Ev (dh (cY true [none,none,some 1,some 4] (He (wc uG (aj (kI 4) (aV [])))) (kx (aX 1) (kU .aq (aj (op2 bf (rd 2) (rd 1)) (aj (op2 bf (rd 3) (rd 1)) (aV [])))))) (aX 5)) (S0 [some S,some (NM C),none,some (CE a),some (OE a),none,none,none]) .nx ⟨[some S,some (NM C),none,some (CE a),some (OE a),some (.ref 0),none,none],[⟨.lst,b⟩]⟩:=by
  have ea:b=(List.range 4).map λi=>PV.aq [.str (jM C i),enc ((Kj a).getD i .num)]:=by rw[m];rfl
  rw[ea];refine aS (cN (kn (j:=4) (cA rfl rfl) (ji _ _)) (by simp) (cF _ λi e=>?_)) rfl
  have e:=de.mp e;have f:lO i=iN i:=by unfold lO iN;rw[kK]
  rw[f];have B:=Oo C (q:=i) (dn ‹_›);have ho:∀h,bf h (OE a) (.int (i:Int))=some (enc ((Kj a).getD i .num)):=λ_=>(atI_nat (by
   have:i=0\/i=1\/i=2\/i=3:=by lia
   rcases this with rfl | rfl | rfl | rfl<;>rfl):L2.mX ((Kj a).map enc) (i:Int)=_)
  obtain⟨D,E⟩:=nw (NM C);rw[<-E]at B;rw[<-E];obtain⟨H,g⟩:=nw (OE a);rw[<-g]at ho;rw[<-g];exact e1 (Jp:=[none,some (iN i),some D,some H]) (h1:=[]) rfl (tU (cA (b2 (x:=D) (y:=.int (i:Int)) rfl rfl (B _)) (cA (b2 (x:=H) (y:=.int (i:Int)) rfl rfl (ho _)) rfl)) (by simp))
 have hl:b++[bj (jM C 4,d4)]++[bj (jM C 5,d5)]++[bj (jM C 6,c)]++[bj (jM C 7,d)]=(ltL C a d4 d5 c d).map bj:=by rw[m];rfl
 rw[hl]at w;refine⟨.ref 0,_,iJ (sq (aS Y rfl) (sq (aS (by
  refine b2 (y:=.lst ((List.range 3).map λi=>enc (jv (mC a i)))) rfl (cM (kn (cA rfl rfl) (ji _ _)) (by simp) λi e=>?_) (aL (by simp))
  have e:=de.mp e;have f:lO i=iN i:=by unfold lO iN;rw[kK]
  rw[f];have hc:=UQ a (q:=i) (dn ‹_›);obtain⟨CC,l⟩:=nw (CE a);rw[<-l]at hc;rw[<-l];exact e1 (Jp:=[none,some (iN i),some CC]) (h1:=[]) rfl (cb (cA (b2 (x:=CC) (y:=.int (i:Int)) rfl rfl (hc _)) rfl) rfl rfl (SR k (mC a i)))) rfl) (sq c3 (sq (fS (kn (j:=4) (cA rfl rfl) (ji _ _)) (fC (s1:=YF (some S) (NM C) 0 (CE a) (OE a) b none none) rfl L (fC (s1:=YF (some S) (NM C) 1 (CE a) (OE a) (b++[bj (jM C 4,d4)]) o p) rfl N (fC (s1:=YF (some S) (NM C) 2 (CE a) (OE a) (b++[bj (jM C 4,d4)]++[bj (jM C 5,d5)]) r t) rfl R (fC (s1:=YF (some S) (NM C) 3 (CE a) (OE a) (b++[bj (jM C 4,d4)]++[bj (jM C 5,d5)]++[bj (jM C 6,c)]) u v) rfl w rfl))))) (rS rfl))))),j7 (vF _)⟩
def acy(h:List aE):Rm h (.int 10) (.int 12)=some (.int (10^12)):=by kernel_rfl
def sL(m:Int):m%4=0\/m%4=1\/m%4=2\/m%4=3:=by lia
structure Md where
 C:Int
 s1:Sh
 s2:Sh
 s3:Sh
 b4:Bool
 t4:Sh
 b5:Bool
 t5:Sh
 d6:Kn
 d7:Kn
 pl:Int
 bk:Int
 L:List Ro
namespace Md
variable (m:Md)
abbrev d4:Kn:=.ho m.b4 m.t4
abbrev d5:Kn:=.ho m.b5 m.t5
def nm(i:Nat):Str:=jM m.C i
def P:List Rk:=if m.pl%2=1 then [(m.nm 9,.ow m.s1),(m.nm 8,m.d4)]else [(m.nm 8,m.d4),(m.nm 9,.ow m.s1)]
def LT:List Rk:=[(m.nm 0,.ow .num),(m.nm 1,.ow m.s1),(m.nm 2,.ow m.s2),(m.nm 3,.ow m.s3),(m.nm 4,m.d4),(m.nm 5,m.d5),(m.nm 6,m.d6),(m.nm 7,m.d7)]
def ks:List Rk:=m.P++m.LT
def so1:List Nat:=if m.bk%4=2 then [8]else []
noncomputable def Tb:List Nat:=if m.bk/4%4=0 then []else if m.bk/4%4=1 then [0]else if m.bk/4%4=2 then [1]else [0,1]
def sT(l:List Nat):PV:=.aq (l.map λi=>.str (m.nm i))
def res:PV:=if m.bk%4=0 then .cf else if m.bk%4=3 then enc m.s2 else .aq [.str (hw m.b5),enc m.t5,m.sT m.so1]
def z:Option Rk:=if m.bk%4=0 then none else if m.bk%4=3 then some (m.nm 2,.ow m.s2)else some (m.nm 5,m.d5)
def hd:List Rk:=[(m.nm 0,m.d4),(m.nm 1,m.d5)].take (m.pl/2).toNat++(m.nm 2,.ow m.s1)::[(m.nm 0,m.d4),(m.nm 1,m.d5)].drop (m.pl/2).toNat
def fn(j:Nat):PV:=.str (m.nm (10+j))
def cs:Cs:=⟨.ow m.s1,m.d4,m.d5,m.z.map (·.2),m.pl⟩
def rows:List PV:=m.L.map (cz m.fn)
def F1:PV:=DK (m.fn 1) m.res (.aq m.rows) m.P m.LT
def F0:PV:=.aq [m.fn 0,.aq [],.cf,.aq [],.aq [.aq [.str "give",.str ""]]]
def F2:PV:=.aq [m.fn 2,.aq (m.hd.map bj),.aq [.str (hw m.b4),enc m.t4,m.sT m.Tb],.aq [],.aq [.aq [.str "give",.str (m.nm 0)]]]
def prog:PV:=.aq [m.F0,m.F1,m.F2]
end Md
structure cB (m:Md) (most:Nat):Prop where
 f1:cZ m.s1
 f2:cZ m.s2
 f3:cZ m.s3
 f4:cZ m.t4
 f5:cZ m.t5
 f6:iS m.d6=true/\cZ (held m.d6)
 f7:iS m.d7=true/\cZ (held m.d7)
 pl:0<=m.pl/\m.pl<6
 rows:∃L,m.L=L++[.iU m.z]/\L.length<=most
 ok:∀r∈m.L,Ke m.cs m.ks m.L.length r
theorem qr(C:Int):∀l:List (Fin 26),l.Nodup->(l.map λi=>jM C i.1).Nodup
 | [],_=>mR
 | i::l,h=>by
  rw[jj]at h;rw[aH,jj];refine⟨λa=>?_,qr C l h.2⟩
  obtain⟨j,b,e⟩:=az.mp a;have:=HV j.2 i.2 e;exact h.1 (by rw[<-Fin.ext this];exact b)
section
variable {m:Md}
def vG:m.ks.length=10:=by
 unfold Md.ks Md.P;split<;>rfl
def UR(h:q∈m.P):q=(m.nm 9,.ow m.s1)\/q=(m.nm 8,m.d4):=by
 unfold Md.P at h;split at h
 all_goals simp only[aW,fw,fA]at h
 ·exact h
 ·exact h.symm
def US(h:q∈m.LT):q=(m.nm 0,.ow .num)\/q=(m.nm 1,.ow m.s1)\/q=(m.nm 2,.ow m.s2)\/q=(m.nm 3,.ow m.s3)\/q=(m.nm 4,m.d4)\/q=(m.nm 5,m.d5)\/q=(m.nm 6,m.d6)\/q=(m.nm 7,m.d7):=by
 unfold Md.LT at h;simpa only[aW,fw,fA]using h
def De:(m.ks.map (·.1)).Nodup:=by
 unfold Md.ks Md.P;split
 ·exact qr m.C [9,8,0,1,2,3,4,5,6,7] (by decide)
 ·exact qr m.C [8,9,0,1,2,3,4,5,6,7] (by decide)
def acz(h:q∈m.ks):∃i,i<10/\q.1=m.nm i:=by
 rcases bB.mp h with h | h
 ·rcases UR h with rfl | rfl
  ·grind
  ·grind
 ·rcases US h with rfl | rfl | rfl | rfl | rfl | rfl | rfl | rfl
  ·grind
  ·grind
  ·grind
  ·grind
  ·grind
  ·grind
  ·grind
  ·grind
def UT(a:cZ m.s1)(c:cZ m.s2)(d:cZ m.s3)(b:cZ m.t4)(f:cZ m.t5)(g:cZ (held m.d6))(j:cZ (held m.d7)):kz m.ks:=by
 refine⟨De,λq h=>?_,by rw[vG];decide,λq h=>?_⟩
 ·rcases bB.mp h with h | h
  ·rcases UR h with rfl | rfl
   ·exact a
   ·exact b
  ·rcases US h with rfl | rfl | rfl | rfl | rfl | rfl | rfl | rfl
   ·exact N6
   ·exact a
   ·exact c
   ·exact d
   ·exact b
   ·exact f
   ·exact g
   ·exact j
 ·obtain⟨i,_,e⟩:=acz h;rw[e];exact N3 m.C i
def cB.ks(h:cB m most):kz m.ks:=UT h.f1 h.f2 h.f3 h.f4 h.f5 h.f6.2 h.f7.2
def mI(j:Nat):noRef (m.fn j)=true:=rfl
def UU:∀r,m.z=some r->r∈m.ks:=λr h=>by
 unfold Md.z at h;have a:(m.nm 2,.ow m.s2)∈m.ks:=dm _ (by simp[Md.LT])
 have b:(m.nm 5,m.d5)∈m.ks:=dm _ (by simp[Md.LT])
 split at h
 ·cases h
 ·split at h
  ·cases h;exact a
  ·cases h;exact b
end
def fk(ks:List Rk)(d:Kn):List Rk:=ks.filter λq=>eqT (Oi q.2) (Oi d)
def Ie(h:r∈ks):(∀q∈fk ks r.2,q∈ks/\q.2=r.2)/\0<(fk ks r.2).length:=⟨λq a=>⟨(gC.mp a).1,Yz _ _ (gC.mp a).2⟩,lR (gC.mpr ⟨h,kX _⟩)⟩
def toT_K(h:List aE)(a:Ao (held d)):toT h fX (encK d)=some (Oi d):=by
 cases d with
 | ow s=>exact toT_enc h s fX (by have:=a.2;simp only[held]at this;show _<1000;lia)
 | ho b s =>
  have e1:=toT_enc h s 999 (by have:=a.2;simp only[held]at this;lia)
  show((c9 (toT h 999) [.str (hw b),enc s]).bind (Ml .aq))=_;simp only[c9,e1];rfl
def acA(h:List aE)(hd:Ao (held d))(he:Ao (held e)):jG h (encK d) (encK e)=some (.bl (eqT (Oi d) (Oi e))):=by
 show((toT h fX (encK d)).bind λx=>(toT h fX (encK e)).map λy=>eqT x y).map PV.bl=_
 rw[toT_K h hd,toT_K h he];rfl
def sM(K:kz ks)(c:Ev (rd 8) s (KL ks) s)(d:bJ [none,none,none,some 4] s.ρ=[none,none,none,some LL])(e:a∈ks)(f:∀h,bf h LL (.int j)=some (bj a)):Ev (cY false [none,none,none,some 4] (gP (rd 8)) (lY Qk (toB (op2 jG (rd 2) (op2 bf (op2 bf (rd 3) (aV (.int j))) (kI 1)))) (rd 1))) s (.lst ((fk ks a.2).map je)) s:=by
 have k:=K.few;refine S3 (sV c rfl) (dn ‹_›) λq i=>?_
 rw[d];have g:Ek (toB (op2 jG (rd 2) (op2 bf (op2 bf (rd 3) (aV (.int j))) (kI 1)))) ⟨[none,some (.str q.1),some (encK q.2),some LL],s.h⟩ (eqT (Oi q.2) (Oi a.2)):=bT (b2 rfl (b2 (b2 rfl rfl (f _)) rfl rfl) (acA _ (K.ok q i) (K.ok a e)));cases b:eqT (Oi q.2) (Oi a.2)with
 | true=>rw[b]at g;exact OZ rfl g rfl
 | false=>rw[b]at g;exact KI rfl g
def Kk(a:List Int)(n:Nat):∃cs:List Int,lX (a.map PV.int) (some 8) (some (8+(n:Int)))=cs.map .int/\cs.length<=n:=by
 have e1:=HT.yP (a.map PV.int).length 0 8;have b:=HT.yP (a.map PV.int).length (a.map PV.int).length (8+n);unfold lX;rw[show(some 8:Option Int)=some ((8:Nat):Int)from rfl,show(some (8+n):Option Int)=some ((8+n:Nat):Int) by rw[Int.natCast_add];rfl,e1,b,<-List.map_drop,<-List.map_take]
 exact⟨_,rfl,by rw[jQ];lia⟩
theorem Ig{R:Ro->Prop}:∀cs:List Int,(∀c∈cs,∃r,bd (.int c) h=some (some (cz fn r),h)/\R r)->∃L:List Ro,fP bd (cs.map PV.int) h=some (L.map (cz fn),h)/\(∀r∈L,R r)/\L.length=cs.length
 | [],_=>⟨[],rfl,(λ_ z=>nomatch z),rfl⟩
 | c::cs,H=>by
  obtain⟨r,a,e⟩:=H c aO;obtain⟨L,b,f,d⟩:=Ig cs λc hc=>H c (aM _ hc)
  refine⟨r::L,?_,λq g=>?_,by simp[d]⟩
  ·show(bd (.int c) h).bind _=_;rw[a];show(fP bd (cs.map PV.int) h).map _=_;rw[b];rfl
  ·grind
def cN'(a:Ev fi s (.sq ps) s1)(b:ps.length<=4000000)(c:fP (bd (bJ link s1.ρ)) ps s1.h=some (d,s1.h)):Ev (cY false link fi bd) s (.lst d) s1:=eB a (by
 show(if ps.length<=gF then fP _ ps s1.h else none).bind _=_
 rw[if_pos (show ps.length<=gF from b),c]
 rfl)
theorem Ih:∀l:List Str,ah (l.map PV.str)=true
 | []=>rfl
 | _::l=>by rw[aH];simp[ah,noRef,Ih l]
theorem oV:∀l:List PV,(∀p∈l,noRef p=true)->ah l=true
 | [],_=>rfl
 | p::l,h=>by simp[ah,h p aO,oV l λq a=>h q (aM _ a)]
def pS(l:List (Option PV))(h:List aE):dB:=⟨(l.reverse++List.replicate 24 none).take 24,h⟩
def aQ(a:Ev fa (pS l h) p s1)(b:p=q)(c:s1=pS l h')(ht:aX i q (pS l h')=some (pS (some q::l) h')) (k:Rt P (g (pS (some q::l) h'))):Rt P (er (dh fa (aX i)) g (pS l h)):=by
 subst b c;exact xS (aS a ht) k
def aP(a:Ek fa (pS l h) p)(ht:aX i p (pS l h)=some (pS (some p::l) h)) (k:Rt P (g (pS (some p::l) h))):Rt P (er (dh fa (aX i)) g (pS l h)):=xS (aS a ht) k
def xH(a:Ev f (pS l h) .nx (pS l h'))(k:Rt P (g (pS l h'))):Rt P (er f g (pS l h)):=xS a k
def Kl(k:Nat)(hk:3<=k)(g:List Int)(f:Nat)(ahQ:f<=31){W:List Str}(hW:0<W.length/\∀w∈W,w≠Str.ofString "drop"/\w≠"fill"):∃m,Gives (run txt (k+4) "_law_program" [JH g,.int (f:Int),.lst (W.map .str)] []) (Md.prog m)/\cB m f:=by
 obtain⟨S,hS⟩:=nw (JH g);have kQ:Gives (run txt (k+3) "_law_cell_at" [S,.int 0] []) (.int (cell g 0)):=by rw[hS];exact N1 (k+2) g 0
 obtain⟨C,hC⟩:=nw (cell g 0%10^12);have hn:=SQ (k+2) C 13 (by decide)
 obtain⟨d4,d5,d6,d7,T,i4,i5,i6,i7⟩:=YG (k+1) (fj ‹_›) C g;obtain⟨back,acB⟩:=nw (J2 (cell g 0) 3);have hb:=oQ (k+2) (cell g 0) (i:=3) (by decide)
 rw[<-acB]at hb;obtain⟨b4,t4,e4⟩:∃b4 t4,d4=.ho b4 t4:=by
  cases d4 with
  | ow s=>cases i4.1
  | ho b s=>exact⟨b,s,rfl⟩
 obtain⟨b5,t5,e5⟩:∃b5 t5,d5=.ho b5 t5:=by
  cases d5 with
  | ow s=>cases i5.1
  | ho b s=>exact⟨b,s,rfl⟩
 subst e4 e5;obtain⟨s1,q1⟩:=nw (jv (mC g 0));obtain⟨s2,q2⟩:=nw (jv (mC g 1));obtain⟨s3,q3⟩:=nw (jv (mC g 2));have f1:=lP (mC g 0);have f2:=lP (mC g 1);have f3:=lP (mC g 2);rw[<-q1]at f1;rw[<-q2]at f2;rw[<-q3]at f3;unfold ltL at T;rw[<-q1,<-q2,<-q3]at T;obtain⟨d,E⟩:=nw (⟨C,s1,s2,s3,b4,t4,b5,t5,d6,d7,back/1024%6,back,[]⟩:Md);have Z:0<=d.pl/\d.pl<6:=by grind
 have K:kz d.ks:=by rw[E];exact UT f1 f2 f3 i4.2 i5.2 i6.2 i7.2
 have fm:cZ d.s1/\cZ d.s2/\cZ d.s3/\cZ d.t4/\cZ d.t5/\(iS d.d6=true/\cZ (held d.d6))/\(iS d.d7=true/\cZ (held d.d7)):=by rw[E];exact⟨f1,f2,f3,i4.2,i5.2,i6,i7⟩
 have T:Gives (run txt (k+1+2) "_law_lets" [JH g,NM C] []) (.lst (d.LT.map bj)):=by rw[E];exact T
 have u:d.bk=back:=by rw[E]
 have ny:d.pl=back/1024%6:=by rw[E]
 have hCm:d.C=C:=by rw[E]
 clear E;have t:∀q∈d.LT,q∈d.ks:=λq hq=>dm _ hq
 have M0:(d.nm 0,Kn.ow .num)∈d.ks:=t _ (by simp[Md.LT])
 have M1:(d.nm 1,Kn.ow d.s1)∈d.ks:=t _ (by simp[Md.LT])
 have M2:(d.nm 2,Kn.ow d.s2)∈d.ks:=t _ (by simp[Md.LT])
 have M4:(d.nm 4,d.d4)∈d.ks:=t _ (by simp[Md.LT])
 have M5:(d.nm 5,d.d5)∈d.ks:=t _ (by simp[Md.LT])
 obtain⟨LL,H⟩:=nw (PV.lst (d.LT.map bj));have l1:∀h,bf h LL (.int 1)=some (bj (d.nm 1,.ow d.s1)):=λ_=>by rw[H];rfl
 have l2:∀h,bf h LL (.int 2)=some (bj (d.nm 2,.ow d.s2)):=λ_=>by rw[H];rfl
 have l4:∀h,bf h LL (.int 4)=some (bj (d.nm 4,d.d4)):=λ_=>by rw[H];rfl
 have l5:∀h,bf h LL (.int 5)=some (bj (d.nm 5,d.d5)):=λ_=>by rw[H];rfl
 obtain⟨e,O2⟩:=nw (NM C);have v:∀q:Nat,q<13->∀h,bf h e (.int q)=some (.str (d.nm q)):=λq hq h=>by
  rw[O2];show _=some (PV.str (jM d.C q));rw[hCm];exact Oo C hq h
 have n0:∀h,bf h e (.int 0)=some (.str (d.nm 0)):=v 0 (by decide)
 have n1:∀h,bf h e (.int 1)=some (.str (d.nm 1)):=v 1 (by decide)
 have n2:∀h,bf h e (.int 2)=some (.str (d.nm 2)):=v 2 (by decide)
 have n5:∀h,bf h e (.int 5)=some (.str (d.nm 5)):=v 5 (by decide)
 have n8:∀h,bf h e (.int 8)=some (.str (d.nm 8)):=v 8 (by decide)
 have n9:∀h,bf h e (.int 9)=some (.str (d.nm 9)):=v 9 (by decide)
 have n10:∀h,bf h e (.int 10)=some (d.fn 0):=v 10 (by decide)
 have n11:∀h,bf h e (.int 11)=some (d.fn 1):=v 11 (by decide)
 have n12:∀h,bf h e (.int 12)=some (d.fn 2):=v 12 (by decide)
 have agr:∀h,Mp h (some 10) none e=some (.lst [d.fn 0,d.fn 1,d.fn 2]):=λh=>by
  rw[O2];show some (PV.lst (lX _ (some 10) none))=some (.lst [.str (jM d.C 10),.str (jM d.C 11),.str (jM d.C 12)]);rw[hCm];rfl
 obtain⟨cs,PU,hcl⟩:=Kk g f;have ags:∀h,Mp h (some 8) (some (8+f)) S=some (.lst (cs.map .int)):=λh=>by
  rw[hS];show some (PV.lst (lX (g.map .int) (some 8) (some (8+(f:Int)))))=_;rw[PU]
 have rs:∀h,bf h (.lst [.cf,.aq [.str (hw d.b5),enc d.t5,.aq []],.aq [.str (hw d.b5),enc d.t5,.aq [.str (d.nm 8)]],enc d.s2]) (.int (back%4))=some d.res:=λ_=>by
  unfold Md.res Md.so1;rw[u];rcases sL back with h | h | h | h<;>rw[h]<;>rfl
 have rz:∀h,bf h (.lst [.str "",.str (d.nm 5),.str (d.nm 5),.str (d.nm 2)]) (.int (back%4))=some (KO d.z):=λ_=>by
  unfold Md.z;rw[u];rcases sL back with h | h | h | h<;>rw[h]<;>rfl
 obtain⟨I,hBK,hB1,rX⟩:∃I:List (Option Rk),(∀h,bf h (.lst [.lst [.str ""],.lst ((fk d.ks d.d5).map je),.lst ((fk d.ks d.d5).map je),.lst ((fk d.ks (.ow d.s2)).map je)]) (.int (back%4))=some (.lst (I.map KO)))/\(∀o∈I,(∀r,o=some r->r∈d.ks)/\o.map (·.2)=d.z.map (·.2))/\0<I.length:=by
  have X:∀{r:Rk},r∈d.ks->d.z.map (·.2)=some r.2->(∀o∈(fk d.ks r.2).map some,(∀q,o=some q->q∈d.ks)/\o.map (·.2)=d.z.map (·.2))/\0<((fk d.ks r.2).map some).length:=λ{r} hr hz=>by
   obtain⟨g1,g2⟩:=Ie hr;refine⟨λo ho=>?_,by rw[aD];exact g2⟩
   obtain⟨q',yO,rfl⟩:=az.mp ho;exact⟨λq hq=>by cases hq;exact(g1 _ yO).1,by rw[hz];show some q'.2=_;rw[(g1 _ yO).2]⟩
  have mm:∀l:List Rk,(l.map some).map KO=l.map je:=λl=>by rw[bY];rfl
  unfold Md.z at X ⊢;rw[u]at X ⊢;rcases sL back with h | h | h | h<;>rw[h]at X ⊢
  ·refine⟨[none],λ_=>rfl,λo ho=>?_,by simp⟩
   rw[aG]at ho;subst ho;exact⟨(λ_ z=>nomatch z),rfl⟩
  ·exact⟨(fk d.ks d.d5).map some,λ_=>by rw[mm];rfl,X M5 rfl⟩
  ·exact⟨(fk d.ks d.d5).map some,λ_=>by rw[mm];rfl,X M5 rfl⟩
  ·exact⟨(fk d.ks (.ow d.s2)).map some,λ_=>by rw[mm];rfl,X M2 rfl⟩
 have CO:YC d.cs d.ks (fk d.ks d.d4) (fk d.ks d.d5) (fk d.ks (.ow d.s1)) I:=⟨Ie M4,Ie M5,Ie M1,hB1,rX⟩;have v20:∀h,bf h (.lst [.aq [],.aq [.str (d.nm 0)],.aq [.str (d.nm 1)],.aq [.str (d.nm 0),.str (d.nm 1)]]) (.int (back/4%4))=some (d.sT d.Tb):=λ_=>by
  unfold Md.Tb;rw[u];rcases sL (back/4)with h | h | h | h<;>rw[h]<;>rfl
 have agt:=SU (k+1) (fj ‹_›) d.ks K.ok (by rw[vG];decide)
 have agu:=Ka (k+2) K M0 (back/16%64);obtain⟨B,Ii⟩:=nw (PV.aq [.str "give",KO d.z]);have hla:∀M,wI d.fn d.cs d.ks M B:=λM=>⟨.iU d.z,Ii,UU⟩
 have J:noRef B=true:=by rw[Ii];rfl
 have YJ:=λc:Int=>acu k hk K (M:=cs.length+1) (ji _ _) hW M0 ⟨_,M4,rfl⟩ (back/16%64) mI CO Z J (hla _) c
 obtain⟨md,Zv⟩:=nw (mdT W d.ks (d.nm 0) (back/16%64) (caT d.fn (fk d.ks d.d4) (fk d.ks d.d5) (fk d.ks (.ow d.s1)) I d.pl) B);have YJ:∀c:Int,∃p,Gives (run txt (k+3) "_law_row" [.int c,.int ((cs.length+1:Nat):Int),md] []) p/\wI d.fn d.cs d.ks (cs.length+1) p:=by rw[Zv];exact YJ
 have nrm:noRef md=true:=by rw[Zv];simp[noRef,ah,Ih,vF,HY _ (qW K),Oa _ (Gk K M0 (back/16%64)).1,J,mI,gw]
 have acD:∀hp:List aE,∃L:List Ro,fP (kx (aX 1) (bnd (aj (rd 1) (aj (op2 eQ (gI gA Qa) (kI 1)) Qw)) (bD 0 3 (run txt (k+3) "_law_row"))) [none,none,some (.lst (cs.map .int)),some md]) (cs.map PV.int) hp=some (L.map (cz d.fn),hp)/\(∀r∈L,Ke d.cs d.ks (cs.length+1) r)/\L.length=cs.length:=λhp=>by
  refine Ig cs λc hc=>?_
  obtain⟨p,h1,r,h2,h3⟩:=YJ c;refine⟨r,?_,h3⟩;rw[h2]at h1;exact e1 rfl (cb (cA rfl (cA (by
   refine b2 (x:=.int (cs.length:Int)) (bV (cA rfl rfl) ?_) rfl rfl;show some (PV.int (((cs.map PV.int).length:Nat):Int))=_;rw[aD]) (cA rfl rfl))) rfl (by simp[ah,noRef,nrm]) h1)
 obtain⟨L,hL1,hL2,hL3⟩:=acD [⟨.lst,d.P.map bj⟩];have hLn:L.length<=f:=by lia
 obtain⟨m,hm⟩:=nw ({d with L:=L++[Ro.iU d.z]}:Md)
 refine⟨m,?_,?_⟩
 rotate_left
 ·rw[hm];obtain⟨g1,g2,g3,g4,g5,g6,g7⟩:=fm;refine⟨g1,g2,g3,g4,g5,g6,g7,Z,⟨L,rfl,hLn⟩,λr hr=>?_⟩
  show Ke d.cs d.ks (L++[Ro.iU d.z]).length r;rw[bK,hL3];rcases bB.mp hr with h | h
  ·exact hL2 r h
  ·rw[aG]at h;subst h;exact UU
 have hR:m.rows=L.map (cz d.fn)++[B]:=by
  rw[hm,Ii];show(L++[Ro.iU d.z]).map (cz d.fn)=_;rw[bU];rfl
 have hF1:m.F1=DK (d.fn 1) d.res (.aq (L.map (cz d.fn)++[B])) d.P d.LT:=by
  rw[<-hR,hm];rfl
 have hF0:m.F0=d.F0:=by rw[hm];rfl
 have hF2:m.F2=d.F2:=by rw[hm];rfl
 unfold Md.prog;rw[hF0,hF1,hF2,Ak,<-hS];obtain⟨WW,hWW⟩:=nw (PV.lst (W.map .str));rw[<-hWW];obtain⟨x1,Zg⟩:=nw (PV.int (f:Int));rw[<-Zg];obtain⟨KS,N⟩:=nw (KL d.ks);obtain⟨PP,Y⟩:=nw (d.P.map bj);obtain⟨D,Tc⟩:=nw (L.map (cz d.fn)++[B]);rw[<-Tc];obtain⟨v4,hv4⟩:=nw (PV.lst ((fk d.ks d.d4).map je));obtain⟨v5,Q⟩:=nw (PV.lst ((fk d.ks d.d5).map je));obtain⟨v1,hv1⟩:=nw (PV.lst ((fk d.ks (.ow d.s1)).map je));obtain⟨vB,hvB⟩:=nw (PV.lst (I.map KO));obtain⟨vS,R⟩:=nw (SL d.ks);obtain⟨vN,hvN⟩:=nw (PV.lst ((Yu d.ks (d.nm 0) (back/16%64)).map lx));obtain⟨vC,hvC⟩:=nw (PV.lst (cs.map .int));obtain⟨p9,h9⟩:=nw d.res;obtain⟨w20,h20⟩:=nw (d.sT d.Tb);rw[<-h9]at rs;rw[<-h20]at v20;rw[<-Y]at hL1;have ZS:Gives (run txt (k+3) "_law_names" [.int (cell g 0%10^12),.int 13] []) e:=by rw[<-hC,O2];exact hn
 rw[<-hS,<-O2,<-H]at T;have fd:∀h,gX h (.int (back/1024)) (.int 6)=some (.int d.pl):=λh=>by rw[ny];exact du (by decide)
 have P2:PP.length=2:=by rw[Y,aD];unfold Md.P;split<;>rfl
 have hLT:d.LT.length=8:=rfl;have nrR:ah D=true:=by
  rw[Tc];refine oV _ λp hp=>?_
  rcases bB.mp hp with h | h
  ·obtain⟨r,hr,rfl⟩:=az.mp h;exact Dd mI r (hL2 r hr)
  ·rw[aG]at h;rw[h];exact J
 have nr9:noRef d.res=true:=by
  unfold Md.res;split
  ·rfl
  ·split
   ·exact dH _
   ·simp[noRef,ah,dH,Md.sT,gw]
 have nrP:noRef (.aq [d.F0,DK (d.fn 1) d.res (.aq D) d.P d.LT,d.F2])=true:=by simp[noRef,ah,Md.F0,Md.F2,DK,dH,vF,nrR,nr9,Md.sT,gw,mI]
 suffices h:Rt (λp=>p=.aq [d.F0,DK (d.fn 1) d.res (.aq D) d.P d.LT,d.F2]) (u4 (run txt (k+3)) ⟨gY 24 [S,x1,WW],[]⟩)from by
  obtain⟨p,a,b⟩:=Rt.run h;rw[<-b];exact a
 refine xS (aS (cb (cA (b2 (cb (cA rfl (cA rfl rfl)) rfl rfl kQ) (b2 rfl rfl (acy _)) (du (by decide))) (cA rfl rfl)) rfl rfl ZS) rfl) ?_
 refine xS (aS (cb (cA rfl (cA rfl rfl)) rfl rfl T) rfl) ?_;refine xS (aS (cb (cA (cb (cA rfl (cA rfl rfl)) rfl rfl kQ) (cA rfl rfl)) rfl rfl hb) rfl) ?_;refine xS (aS (b2 (b2 rfl rfl (Av (by decide))) rfl (fd _)) rfl) ?_
 refine xS (aS (lC (cA (tU (cA (b2 (x:=e) rfl rfl (n8 _)) (cA (b2 (b2 (x:=LL) rfl rfl (l4 _)) rfl rfl) rfl)) (by simp)) (cA (tU (cA (b2 (x:=e) rfl rfl (n9 _)) (cA (b2 (b2 (x:=LL) rfl rfl (l1 _)) rfl rfl) rfl)) (by simp)) rfl)) (by simp)) rfl) ?_
 refine xS (s1:=pS [some (.ref 0),some (.int d.pl),some (.int back),some LL,some e,some WW,some x1,some S] [⟨.lst,PP⟩]) ?_ ?_
 ·have d2:Ek (toB (op2 jG (op2 gX (rd 6) (kI 2)) (kI 1))) (pS [some (.ref 0),some (.int d.pl),some (.int back),some LL,some e,some WW,some x1,some S] [⟨.lst,[bj (d.nm 8,d.d4),bj (d.nm 9,.ow d.s1)]⟩]) (d.pl%2==1):=bT (b2 (b2 (x:=.int d.pl) rfl rfl (du (by decide))) rfl (lu _ _ _))
  rw[Y];unfold Md.P;by_cases h:d.pl%2=1
  ·rw[show(d.pl%2==1)=true by rw[h];rfl]at d2
   rw[if_pos h];exact iT d2 rfl
  ·rw[show(d.pl%2==1)=false by rw[kC];exact h]at d2
   rw[if_neg h];exact iF d2 rfl
 refine aP (p:=KS) ?_ rfl ?_
 ·rw[N,H,Y];show Ev _ _ (PV.lst (d.ks.map bj)) _;unfold Md.ks;rw[bU];refine b2 (x:=.ref 0) (y:=.lst (d.LT.map bj)) rfl rfl ?_;show sizeOk ((d.P.map bj).length+(d.LT.map bj).length) _=_;exact if_pos (show _<=4000000 by rw[<-Y,P2,aD,hLT];decide)
 refine aP (p:=p9) (b2 (x:=.lst [.cf,.aq [.str (hw d.b5),enc d.t5,.aq []],.aq [.str (hw d.b5),enc d.t5,.aq [.str (d.nm 8)]],enc d.s2]) (lS (cA rfl (cA (b2 (y:=.aq [.aq []]) (b2 (x:=bj (d.nm 5,d.d5)) (z:=.aq [.str (hw d.b5),enc d.t5]) (b2 (x:=LL) rfl rfl (l5 _)) rfl rfl) rfl (aT (by simp))) (cA (b2 (y:=.aq [.aq [.str (d.nm 8)]]) (b2 (x:=bj (d.nm 5,d.d5)) (z:=.aq [.str (hw d.b5),enc d.t5]) (b2 (x:=LL) rfl rfl (l5 _)) rfl rfl) (tU (cA (tU (cA (b2 (x:=e) rfl rfl (n8 _)) rfl) (by simp)) rfl) (by simp)) (aT (by simp))) (cA (b2 (b2 (x:=LL) rfl rfl (l2 _)) rfl rfl) rfl)))) (by simp)) (b2 (x:=.int back) rfl rfl (du (by decide))) (rs _)) rfl ?_
 refine aP (p:=B) ?_ rfl ?_
 ·rw[Ii];exact tU (cA rfl (cA (b2 (x:=.lst [.str "",.str (d.nm 5),.str (d.nm 5),.str (d.nm 2)]) (lS (cA rfl (cA (b2 (x:=e) rfl rfl (n5 _)) (cA (b2 (x:=e) rfl rfl (n5 _)) (cA (b2 (x:=e) rfl rfl (n2 _)) rfl)))) (by simp)) (b2 (x:=.int back) rfl rfl (du (by decide))) (rz _)) rfl)) (by simp)
 refine aP (p:=v4) ?_ rfl ?_
 ·rw[hv4,N];exact sM K (LL:=LL) rfl rfl M4 l4
 refine aP (p:=v5) ?_ rfl ?_
 ·rw[Q,N];exact sM K (LL:=LL) rfl rfl M5 l5
 refine aP (p:=v1) ?_ rfl ?_
 ·rw[hv1,N];exact sM K (LL:=LL) rfl rfl M1 l1
 refine aP (p:=vB) ?_ rfl ?_
 ·rw[hvB,Q,N];exact b2 (x:=.lst [.lst [.str ""],.lst ((fk d.ks d.d5).map je),.lst ((fk d.ks d.d5).map je),.lst ((fk d.ks (.ow d.s2)).map je)]) (lS (cA rfl (cA rfl (cA rfl (cA (sM K (LL:=LL) rfl rfl M2 l2) rfl)))) (by simp)) (b2 (x:=.int back) rfl rfl (du (by decide))) (hBK _)
 refine aP (p:=vS) ?_ rfl ?_
 ·rw[R,N];exact cb (as:=[KL d.ks]) (cA rfl rfl) rfl (by simp[ah,noRef,vF]) agt
 refine aP (p:=vN) ?_ rfl ?_
 ·rw[hvN,R];exact cb (as:=[SL d.ks,.str (d.nm 0),.int (back/16%64)]) (cA rfl (cA (b2 (x:=e) rfl rfl (n0 _)) (cA (b2 (b2 (x:=.int back) rfl rfl (Av (by decide))) rfl (du (by decide))) rfl))) rfl (by simp[ah,noRef,HY _ (qW K)]) agu
 refine aP (p:=md) ?_ rfl ?_
 ·rw[Zv];unfold mdT caT;rw[<-hWW,<-N,<-R,<-hvN,<-hv4,<-Q,<-hv1,<-hvB];exact tU (cA rfl (cA rfl (cA rfl (cA rfl (cA (tU (cA (x:=.lst [d.fn 0,d.fn 1,d.fn 2]) (cE (p:=e) rfl rfl rfl (agr _)) (cA rfl (cA rfl (cA rfl (cA rfl (cA rfl rfl)))))) (by simp)) (cA rfl rfl)))))) (by simp)
 refine aP (p:=vC) ?_ rfl ?_
 ·rw[hvC,Zg];exact cE (p:=S) (h:=some (8+(f:Int))) rfl rfl (eB (b2 (x:=.int 8) (y:=.int (f:Int)) rfl rfl rfl) rfl) (ags _)
 refine aP (p:=(.lst D)) ?_ rfl ?_
 ·rw[Tc,hvC];exact b2 (x:=.lst (L.map (cz d.fn))) (y:=.lst [B]) (cN' (sV rfl rfl) (by rw[aD];lia) hL1) (lS (cA rfl rfl) (by simp)) (aL (by simp only[aD,aR,tF];lia))
 refine aP (p:=w20) (b2 (x:=.lst [.aq [],.aq [.str (d.nm 0)],.aq [.str (d.nm 1)],.aq [.str (d.nm 0),.str (d.nm 1)]]) (lS (cA rfl (cA (tU (cA (b2 (x:=e) rfl rfl (n0 _)) rfl) (by simp)) (cA (tU (cA (b2 (x:=e) rfl rfl (n1 _)) rfl) (by simp)) (cA (tU (cA (b2 (x:=e) rfl rfl (n0 _)) (cA (b2 (x:=e) rfl rfl (n1 _)) rfl)) (by simp)) rfl)))) (by simp)) (b2 (b2 (x:=.int back) rfl rfl (Av (by decide))) rfl (du (by decide))) (v20 _)) rfl ?_
 refine aQ (q:=.ref 1) (h':=[⟨.lst,PP⟩,⟨.lst,[bj (d.nm 0,d.d4),bj (d.nm 1,d.d5)]⟩]) (lC (ps:=[bj (d.nm 0,d.d4),bj (d.nm 1,d.d5)]) (cA (tU (cA (b2 (x:=e) rfl rfl (n0 _)) (cA (b2 (b2 (x:=LL) rfl rfl (l4 _)) rfl rfl) rfl)) (by simp)) (cA (tU (cA (b2 (x:=e) rfl rfl (n1 _)) (cA (b2 (b2 (x:=LL) rfl rfl (l5 _)) rfl rfl) rfl)) (by simp)) rfl)) (by simp)) rfl rfl rfl ?_
 refine xH (h':=[⟨.lst,PP⟩,⟨.lst,d.hd.map bj⟩]) ?_ ?_
 ·obtain⟨j,hj,hj2⟩:∃j:Nat,d.pl/2=(j:Int)/\j<=2:=⟨(d.pl/2).toNat,by lia,by lia⟩
  unfold Md.hd;rw[hj];refine dS (p:=.cf) (sx (n:=1) (as:=[.int (j:Int),bj (d.nm 2,.ow d.s1)]) rfl rfl (cA (b2 (x:=.int d.pl) rfl rfl (by rw[<-hj];exact Av (by decide))) (cA (tU (cA (b2 (x:=e) rfl rfl (n2 _)) (cA (b2 (b2 (x:=LL) rfl rfl (l1 _)) rfl rfl) rfl)) (by simp)) rfl)) ?_)
  have:j=0\/j=1\/j=2:=by lia
  rcases this with rfl | rfl | rfl<;>rfl
 refine aP (p:=d.F2) (tU (cA (b2 (x:=e) rfl rfl (n12 _)) (cA (x:=.aq (d.hd.map bj)) (bV (as:=[.ref 1]) (cA rfl rfl) rfl) (cA (x:=.aq [.str (hw d.b4),enc d.t4,d.sT d.Tb]) (b2 (x:=.aq [.str (hw d.b4),enc d.t4]) (y:=.aq [w20]) (b2 (x:=bj (d.nm 4,d.d4)) (b2 (x:=LL) rfl rfl (l4 _)) rfl rfl) (tU (cA rfl rfl) (by simp)) (by rw[h20];exact aT (by simp))) (cA rfl (cA (tU (cA (tU (cA rfl (cA (b2 (x:=e) rfl rfl (n0 _)) rfl)) (by simp)) rfl) (by simp)) rfl))))) (by simp)) rfl ?_
 refine aP (p:=(DK (d.fn 1) d.res (.aq D) d.P d.LT)) ?_ rfl ?_
 ·unfold DK;rw[<-Y,<-h9];exact tU (cA (b2 (x:=e) rfl rfl (n11 _)) (cA (x:=.aq PP) (bV (as:=[.ref 0]) (cA rfl rfl) rfl) (cA rfl (cA (x:=.aq (d.LT.map bj)) (bV (as:=[LL]) (cA rfl rfl) (by rw[H];rfl)) (cA (x:=.aq D) (bV (as:=[.lst D]) (cA rfl rfl) rfl) rfl))))) (by simp)
 exact xR (tU (ps:=[d.F0,DK (d.fn 1) d.res (.aq D) d.P d.LT,d.F2]) (cA (tU (cA (b2 (x:=e) rfl rfl (n10 _)) (cA rfl (cA rfl (cA rfl (cA rfl rfl))))) (by simp)) (cA rfl (cA rfl rfl))) (by simp)) nrP rfl
def Md.A(m:Md):List (List bW):=m.L.map O1
def Md.as(m:Md):List (Nat×bW):=iM 0 m.A
def Df(j:Nat):Ro->List Nat
 | .iU _=>[]
 | .go n=>[n]
 | .Gn _ _ n=>CY (j+1) n
 | _=>[j+1]
def Md.nx(m:Md)(j:Nat):List Nat:=match m.L[j]? with
 | some r=>Df j r
 | none=>[]
def Md.vH(m:Md):List (List Nat):=sH m.A m.nx
section
variable {m:Md} {most:Nat} (h:cB m most)
def vI(H:List aE):bf H m.prog (.int 1)=some m.F1:=rfl
def Ij(h:cB m most):ah m.rows=true:=oV _ λp hp=>by
 obtain⟨r,hr,rfl⟩:=az.mp hp;exact Dd mI r (h.ok r hr)
def YL:noRef m.res=true:=by
 unfold Md.res;split
 ·rfl
 ·split
  ·exact dH _
  ·simp[noRef,ah,dH,Md.sT,gw]
def Dg(h:cB m most):noRef m.F1=true:=by simp[Md.F1,DK,noRef,ah,mI,YL,vF,Ij h]
def Oq:noRef m.F0=true:=rfl
def UW:noRef m.F2=true:=by simp[Md.F2,noRef,ah,mI,dH,vF,Md.sT,gw]
def j9(h:cB m most):noRef m.prog=true:=by simp[Md.prog,noRef,ah,Oq,Dg h,UW]
def Ot(h:cB m most):oM m.F1 m.ks:=GL _ _ _ m.P m.LT (by have:=@vG m;unfold Md.ks at this;rw[bK]at this;lia) (De)
def YM(h:cB m most)(hr:r∈m.L):oS m.ks m.L.length (cz m.fn r) (O1 r):=YA h.ks _ mI r (h.ok r hr)
def Dh(h:cB m most):m.L.length<=most+1/\0<m.L.length:=by
 obtain⟨L,e,a⟩:=h.rows;rw[e];simp
 lia
def AD(h:cB m most)(c:most<=31)(k:Nat)(hk:12<=k):Gives (run txt (k+1) "acts" [m.prog,.int 1] []) (.lst (m.as.map eN)):=by
 have e:m.rows=(m.L.map λr=>(cz m.fn r,O1 r)).map (·.1):=by rw[bY];rfl
 have a:(m.L.map λr=>(cz m.fn r,O1 r)).map (·.2)=m.A:=by rw[bY];rfl
 have d:=(Dh h).1;have:=NT k vI (by rw[<-e];rfl) (Dg h) (λq b=>by
  obtain⟨r,hr,rfl⟩:=az.mp b;exact(YM h hr).made m.F1 k (Ot h) (Dg h) hk) (by grind)
 rw[a,oO]at this;exact this
def acE(h:cB m most):∀as∈m.A,as.length<=6:=λas a=>by
 obtain⟨r,hr,rfl⟩:=az.mp a;exact(YM h hr).six
theorem Di:∀(L:List (List bW)) (i:Nat),(∀as∈L,as.length<=6)->(iM i L).length<=6*L.length
 | [],_,_=>by simp[iM]
 | as::L,i,h=>by
  have b:=h as aO;have d:=Di L (i+1) λa c=>h a (aM _ c)
  have:(cR as).length<=6:=by
   cases as with
   | nil=>simp[cR]
   | cons a r=>exact b
  rw[iM,bK,aD,aR]
  lia
def AE(h:cB m most):m.as.length<=6*(most+1):=by
 have a:=Di m.A 0 (acE h);have b:=(Dh h).1;have c:m.A.length=m.L.length:=by unfold Md.A;rw[aD]
 unfold Md.as
 lia
def UX:Ro->Str
 | .put _ _=>"put"
 | .set _ _ _ _=>"set"
 | .vA _ _=>"copy"
 | .vD _ _=>"move"
 | .oT _ b _=>lw b
 | .call _ _ _=>"call"
 | .Gn _ _ _=>"if"
 | .go _=>"go"
 | .KN _=>"say"
 | .iU _=>"give"
def UY(fn:Nat->PV)(H:List aE)(r:Ro):bf H (cz fn r) (.int 0)=some (.str (UX r)):=by cases r<;>rfl
def O3:Ro->Nat
 | .iU _=>0
 | .go _=>1
 | .Gn _ _ _=>2
 | _=>3
def Td(r:Ro):(UX r==Str.ofString "give")=(O3 r==0):=by
 cases r with
 | put _ _=>kernel_rfl
 | oT _ b _=>cases b<;>kernel_rfl
 | _=>kernel_rfl
def acF(r:Ro):(UX r==Str.ofString "go")=(O3 r==1):=by
 cases r with
 | put _ _=>kernel_rfl
 | oT _ b _=>cases b<;>kernel_rfl
 | _=>kernel_rfl
def acG(r:Ro):(UX r==Str.ofString "if")=(O3 r==2):=by
 cases r with
 | put _ _=>kernel_rfl
 | oT _ b _=>cases b<;>kernel_rfl
 | _=>kernel_rfl
def Ou{j:Nat}(hr:m.L[j]?=some r)(H:List aE):bf H (.aq m.rows) (.int (j:Int))=some (cz m.fn r):=atI_nat (by unfold Md.rows;rw[cw,hr];rfl)
def Dj(h:cB m most)(hr:m.L[j]?=some r)(b:O3 r≠0):j+1<m.L.length:=by
 obtain⟨L,e,c⟩:=h.rows;have d:=(cS.mp hr).1;by_cases a:j=L.length
 ·subst a;rw[e]at hr;simp at hr;subst hr;exact absurd rfl b
 ·grind
def UZ(h:cB m most)(hr:m.L[j]?=some r):(Df j r).length<=2/\∀n∈Df j r,n<m.L.length:=by
 have ok:=h.ok r (cK hr);have one:O3 r≠0->[j+1].length<=2/\∀n∈[j+1],n<m.L.length:=λc=>⟨by simp,λn d=>by rw[aG]at d;have:=Dj h hr c;lia⟩
 cases r with
 | iU z=>exact⟨by simp[Df],λ_ z=>nomatch z⟩
 | go n=>exact⟨by simp[Df],λq b=>by simp only[Df,aG]at b;rw[b];exact ok⟩
 | Gn a i n =>
  have:=Dj h hr (by simp[O3])
  have e:=ok.2;refine⟨?_,λq b=>?_⟩
  ·show(CY (j+1) n).length<=2;unfold CY;split
   ·simp
   ·split<;>simp
  ·have b:q∈CY (j+1) n:=b;unfold CY at b;split at b
   ·simp at b;lia
   ·split at b<;>simp at b<;>lia
 | _=>exact one (by simp[O3])
def YN(h:cB m most)(B:most<=31)(k:Nat){j:Nat}(hr:m.L[j]?=some r):Gives (run txt (k+1) "row_nexts" [.aq m.rows,.int (j:Int)] []) (nT (Df j r)):=by
 have C:=(cS.mp hr).1;have D:=(Dh h).1;obtain⟨p,hp⟩:=nw (cz m.fn r);obtain⟨R,g⟩:=nw (PV.aq m.rows);rw[mz,<-g];have q:∀H,bf H R (.int j)=some p:=λH=>by rw[g,hp];exact Ou hr H
 have d:Ev (dh Qn (aX 2)) (S0 [some R,some (.int j),none]) .nx (S0 [some R,some (.int j),some p]):=aS (b2 rfl rfl (q _)) rfl;have w:∀v:Str,Ek (toB (op2 jG (op2 bf (rd 2) (kI 0)) (aV (.str v)))) (S0 [some R,some (.int j),some p]) (UX r==v):=λv=>bT (b2 (b2 rfl rfl (by rw[hp];exact UY _ _ r)) rfl (dz _ _ _))
 have b:=w "give";have c:=w "go";have f:=w "if"
 rw[Td]at b;rw[acF]at c;rw[acG]at f;have o:Ek (op2 eQ (rd 1) (kI 1)) (S0 [some R,some (.int j),some p]) (iN (j+1)):=b2 rfl rfl rfl;have nr:∀l,noRef (nT l)=true:=λl=>by simp[nT,noRef,sF]
 have one:(O3 r==0)=false->(O3 r==1)=false->(O3 r==2)=false->Gives (dJ (qN (run txt k)) 3 [R,.int j] []) (nT [j+1]):=λt u x=>by
  rw[t]at b;rw[u]at c;rw[x]at f;exact gV (sq d (sq (iF b rfl) (sq (iF c rfl) (sq (iF f rfl) (rS (tU (cA o rfl) (by simp))))))) (nr _)
 have ok:=h.ok r (cK hr);cases r with
 | iU z=>exact gV (sq d (o9 (iT b (rS rfl)))) rfl
 | go n=>exact gV (sq d (sq (iF b rfl) (o9 (iT c (rS (tU (ps:=[iN n]) (cA (b2 rfl rfl (by rw[hp];rfl)) rfl) (by simp))))))) (nr _)
 | Gn a i n =>
  have E:=ok.2;have y:ssO [] (.lst [iN (j+1),iN n])=some (.lst ((CY (j+1) n).map iN)):=by
   have e:ssO [] (.lst [iN (j+1),iN n])=(if([((j+1:Nat):Int),(n:Int)].length<=2/\[((j+1:Nat):Int),(n:Int)].all (λn=>decide (0<=n/\n<64))=true)then some (PV.lst ((iX (qc (λi=>[((j+1:Nat):Int),(n:Int)].getD i 0) 2)).map .int))else none):=rfl
   rw[e,if_pos ⟨by simp,by simp;lia⟩,N0,acn,bY]
   rfl
  exact gV (sq d (sq (iF b rfl) (sq (iF c rfl) (o9 (iT f (rS (bV (cA (eB (lS (cA o (cA (b2 rfl rfl (by rw[hp];rfl)) rfl)) (by simp)) (show Option.map _ (ssO [] (.lst [iN (j+1),iN n]))=_ by rw[y];rfl)) rfl) rfl))))))) (nr _)
 | _=>exact one rfl rfl rfl
def Te(h:cB m most)(b:most<=31)(k:Nat):Au (run txt (k+1)) (.aq m.rows) m.A.length m.nx:=λj a=>by
 have c:m.A.length=m.L.length:=by unfold Md.A;rw[aD]
 rw[c]at a ⊢;obtain⟨r,hr⟩:∃r,m.L[j]?=some r:=⟨_,b7 a⟩
 have e:m.nx j=Df j r:=by unfold Md.nx;rw[hr]
 rw[e];exact⟨YN h b k hr,(UZ h hr).1,(UZ h hr).2⟩
def iQ(h:cB m most)(i:most<=20)(k:Nat)(hk:12<=k):Gives (run txt (k+2) "nexts" [m.prog,.int 1] []) (.lst (m.vH.map nT))/\Yk m.vH m.as.length:=by
 have b:=AD h (by lia) k hk
 unfold Md.as at b;rw[<-oO]at b;have d:=AE h;obtain⟨e,f,g⟩:=HQ (k+1) rfl (by simp[noRef,Ij h]) b (Te h (by lia) k) (by unfold Md.as at d;lia)
 refine⟨e,f,g,?_,by lia⟩
 obtain⟨a,c⟩:=vh m.A 0 0 (au _) (by unfold Md.A;rw[aD];have:=(Dh h).2;lia)
 exact List.length_pos_of_mem c
structure YO (m:Md) (cs:List Nat):Prop where
 nd:cs.Nodup
 lt:∀n∈cs,n<m.as.length
 zero:0∈cs
 nx:∀n∈cs,∀l,m.vH[n]?=some l->∀q∈l,q∈cs
def YQ(h:cB m most)(y:most<=20):∃cs,(∀k,12<=k->Gives (run txt (k+3) "come_to" [m.prog,.int 1] []) (.lst (cs.map iN)))/\YO m cs:=by
 have N:=(iQ h y 12 (au _)).2;obtain⟨v,d,J,r,B,C,Y,L,M⟩:=vg N;have u:(d.map λn:Nat=>(n:Int)).Nodup:=by
  refine List.Pairwise.map _ (λa b o z=>o ?_) B
  exact Int.ofNat.inj z
 have D:d.length<128:=by
  have:=gJ d (List.range m.as.length) B λn g=>de.mpr (C n g)
  rw[dY]at this;have:=N.few
  lia
 have Z:v.length=d.length:=by
  have:=dO List.length r
  rwa [aD,aD]at this
 obtain⟨cs,E,w⟩:∃cs:List Nat,iX (d.map λn:Nat=>n)=cs.map (λn:Nat=>(n:Int))/\∀n,n∈cs↔n∈d:=by
  have hp:=fM (d.map λn:Nat=>n)
  refine⟨(iX (d.map λn:Nat=>n)).map Int.toNat,?_,λn=>?_⟩
  ·rw[bY];have:∀l:List Int,(∀i∈l,0<=i)->l=l.map ((λn:Nat=>(n:Int)) ∘ Int.toNat):=λl=>by
    induction l with
    | nil=>exact λ_=>rfl
    | cons i l ih =>
     intro H;rw[aH,<-ih λj Q=>H j (aM _ Q)]
     have:=H i aO;show i::l=(i.toNat:Int)::l;rw[mM this]
   refine this _ λi p=>?_
   obtain⟨n,_,rfl⟩:=az.mp (hp.mem_iff.mp p)
   lia
  ·constructor
   ·intro g;obtain⟨i,p,rfl⟩:=az.mp g;obtain⟨q,x,rfl⟩:=az.mp (hp.mem_iff.mp p);exact x
   ·intro g;exact az.mpr ⟨n,hp.mem_iff.mpr (az.mpr ⟨n,g,rfl⟩),rfl⟩
 refine⟨cs,?_,⟨?_,λn g=>C n ((w n).mp g),(w 0).mpr M,λn g l D q x=>?_⟩⟩
 ·intro k hk;have g:=(iQ h y k hk).1;rw[qO];have hc:Ek (cY false [none,none] (gP (bnd (aj (bnd Qj (bD 0 2 (run txt (k+2) "nexts"))) (aV [])) (bD 0 1 (run txt (k+2) "arrivals")))) (kx (aX 1) Q4)) (S0 [some m.prog,some (.int 1)]) (.lst (d.map iN)):=by
   have e:d.map iN=v.map λt=>((t.1.map qe).getD 0 .cf):=by
    have:=dO (List.map λks:List bO=>(ks.map qe).getD 0 .cf) r
    rw[bY,bY]at this;exact this.symm
   rw[e];refine cM (sV (cb (cA (cb (cA rfl (cA rfl rfl)) rfl rfl g) rfl) rfl rfl (J k)) rfl) (by lia) λt ht=>?_
   have:t.1∈d.map kN:=by rw[<-r];exact az.mpr ⟨t,ht,rfl⟩
   obtain⟨n,_,R⟩:=az.mp this;obtain⟨f,c⟩:=t;subst R;exact e1 rfl (b2 rfl rfl rfl)
  refine gV (rS (bV (cA hc rfl) ?_)) (by simp[noRef,sF])
  have g:mn (d.map iN)=some (d.map λn:Nat=>(n:Int)):=by
   have:=ql (d.map λn:Nat=>n)
   rwa [bY]at this
  show(mn (d.map iN)).bind _=_;rw[g,dM,if_pos (Or.inr ⟨by rw[aD];lia,u⟩),E,bY]
  rfl
 ·have:(cs.map λn:Nat=>(n:Int)).Nodup:=by rw[<-E];exact(fM _).nodup_iff.mpr u
  exact List.Pairwise.imp (λ{a b} o z=>o (by rw[z])) (List.pairwise_map.mp this)
 ·rw[w]at g ⊢;have:kN n∈v.map (·.1):=by rw[r];exact az.mpr ⟨n,g,rfl⟩
  obtain⟨t,ht,e⟩:=az.mp this;obtain⟨i,p⟩:=List.getElem?_of_mem ht;obtain⟨f,c⟩:=t;subst e;obtain⟨fs,I,T⟩:=L i _ c (cS.mp p).1 p;rw[HL D]at I;cases I;have:=T (kN q) (az.mpr ⟨q,x,rfl⟩);rw[r]at this;obtain⟨q',X,e⟩:=az.mp this;rw[<-NV e];exact X
end
section
variable {fa fb:Gx PV} {s s1 s2:dB} {x y:PV} {r:Option (Rs PV×dB)}
def anT(h:Ev fa s x s1)(ht:rA s1.h x=some true)(b:fb s1=r):IZ fa fb s=r:=eB h (eB (a:=true) (by show(rA s1.h x).map _=_;rw[ht];rfl) b)
def anF(h:Ev fa s x s1)(ht:rA s1.h x=some false):Ev (IZ fa fb) s x s1:=eB h (eB (by show(rA s1.h x).map _=_;rw[ht];rfl) rfl)
def anB(h:Ev fa s (.bl a) s)(c:Ev fb s (.bl b) s):Ev (IZ fa fb) s (.bl (a&&b)) s:=by
 cases a with
 | true=>exact anT h rfl c
 | false=>exact anF h rfl
def chB(c:Ev fa s x s)(d:Ev fb s y s)(h1:g s.h x y=some (.bl a))(hc:Ev f s z s)(i:e s.h y z=some (.bl b)):Ev (chain g e fa fb f) s (.bl (a&&b)) s:=by
 have e1:Ev (hp λh=>(g h x y).bind xc) s a s:=by show((g s.h x y).bind xc).map _=_;rw[h1];rfl
 cases a with
 | true =>
  refine eB c (eB d (eB e1 (eB hc ?_)));show(e s.h y z).map _=_;rw[i];rfl
 | false=>exact eB c (eB d (eB e1 rfl))
end
def eK(a:bW):Bool:=(Str.ofString "lend"==a.w || (Str.ofString "sole"==a.w || false))
def ka(k:Nat)(q:Nat×bW):Gives (run txt (k+1) "is_lending" [eN q] []) (.bl (eK q.2)):=by
 rw[uV];exact gV (rS (b2 (b2 rfl rfl rfl) rfl (Ta _ _ _ _))) rfl
noncomputable def tls(a:bW):List Int:=(List.range a.m.toNat).map λi=>a.f+(i:Nat)*1
def Km(k:Nat){Bd:Nat}(b:Bd<=500)(ok:vx X Bd q.2):Gives (run txt (k+1) "touched" [eN q] []) (.lst ((tls q.2).map .int)):=by
 rw[Cz];have a:=ok.f0;have c:=ok.m0;have d:=ok.few;refine gV (rS (eB (cA (b2 rfl rfl rfl) (cA (b2 (b2 rfl rfl rfl) (b2 rfl rfl rfl) rfl) rfl)) (eB (s1:=S0 [some (eN q)]) ?_ rfl))) (vo _);show Option.map _ (if 0<=q.2.f/\q.2.f<=q.2.f+q.2.m/\q.2.f+q.2.m<=1000 then some (PyProof.Rows.rangeInts q.2.f 1 (q.2.f+q.2.m-q.2.f).toNat)else none)=_
 rw[if_pos ⟨a,by lia,by lia⟩,show q.2.f+q.2.m-q.2.f=q.2.m by lia]
 rfl
noncomputable def O4(a:bW)(x:Str)(l:Int):Bool:=(a.n==x)&&(decide (a.f<=l)&&decide (l<a.f+a.m))
def Ko(k:Nat)(q:Nat×bW)(x:Str)(l:Int):Gives (run txt (k+1) "touches" [eN q,.str x,.int l] []) (.bl (O4 q.2 x l)):=by
 rw[CB];exact gV (rS (anB (b2 (b2 rfl rfl rfl) rfl (dz _ _ _)) (chB (b2 rfl rfl rfl) rfl (le_int _ _ _) (b2 (b2 rfl rfl rfl) (b2 rfl rfl rfl) rfl) (lt_int _ _ _)))) rfl
def AF(k:Nat)(x:Str):Gives (run txt (k+1) "is_of_call" [.str x] []) (.bl (Txt.isdigit x)):=by
 rw[uW];exact gV (rS rfl) rfl
def AG(h:List aE)(x:Str)(xs:List Str)(n:Bool):ku n h (.str x) (.aq (xs.map PV.str))=some (.bl (if n=true then !(xs.any λy=>y==x)else xs.any λy=>y==x)):=by
 have e:∀xs:List Str,c9 (toT h fX) (xs.map PV.str)=some (xs.map Tr.str):=λxs=>by
  induction xs with
  | nil=>rfl
  | cons y xs ih=>show((c9 (toT h fX) (xs.map PV.str)).map _)=_;rw[ih];rfl
 have a:∀xs:List Str,((xs.map Tr.str).any λy=>eqT y (.str x))=xs.any λy=>y==x:=λxs=>by
  induction xs with
  | nil=>rfl
  | cons y xs ih=>rw[aH,iy,iy,ih];rfl
 have b:Mm h (.str x) (xs.map PV.str)=some (xs.any λy=>y==x):=by
  show(c9 (toT h fX) (xs.map PV.str)).map _=_;rw[e,iw,a]
 show(Mm h (.str x) (xs.map PV.str)).map _=_;rw[b];rfl
def Dk(h:List aE)(x:Str)(xs:List Str)(n:Bool):ku n h (.str x) (.lst (xs.map PV.str))=some (.bl (if n=true then !(xs.any λy=>y==x)else xs.any λy=>y==x)):=AG h x xs n
noncomputable def wJ(ps:List Rk)(xs:List Str):List Nat:=(List.range ps.length).filter λi=>xs.any λy=>y==(ps.getD i ("",.ow .num)).1
theorem Dl(e:Rk->PV):∀(l:List Rk) (i:Nat) (pre:List Rk),pre.length=i->dG i (l.map e)=(List.range l.length).map λj=>qE (.int ((i+j:Nat):Int)) (e ((pre++l).getD (i+j) ("",.ow .num)))
 | [],_,_,_=>rfl
 | r::l,i,pre,h=>by
  have ih:=Dl e l (i+1) (pre++[r]) (by simp[h])
  rw[aH,dG,ih,aR,DV,aH,bY]
  congr 1
  ·have:(pre++r::l).getD i ("",.ow .num)=r:=by subst h;simp
   rw[pN,this]
  ·refine yi λj _=>?_
   rw[cC,show i+1+j=i+(j+1) by lia]
   rfl
def Md.F(m:Md):Nat->PV
 | 0=>m.F0
 | 1=>m.F1
 | _=>m.F2
noncomputable def F_0(m:Md)(a:i<3)(H:List aE):bf H (m.F i) (.int 0)=some (m.fn i):=by
 match i,a with
 | 0,_=>rfl
 | 1,_=>rfl
 | 2,_=>rfl
def acH(m:Md)(a:i<3)(b:j<3)(H:List aE):jG H (m.fn i) (m.fn j)=some (.bl (i==j)):=by
 show some (PV.bl (m.nm (10+i)==m.nm (10+j)))=_;by_cases e:i=j
 ·subst e;simp
 ·have:(m.nm (10+i)==m.nm (10+j))=false:=by
   rw[kC];intro z;have:=HV (by lia) (by lia) z
   lia
  rw[this,show(i==j)=false by rw[kC];exact e]
def qX(m:Md)(a:j<3)(hR:∀H,bf H R (.int 2)=some (m.fn j))(b:Option PV):Ek (op2 bf Ql (kI 0)) (S0 [some m.prog,some R,b]) (m.F j):=by
 have c:Ek Ql (S0 [some m.prog,some R,b]) (.lst (([0,1,2].filter λi=>i==j).map m.F)):=by
  refine S3 (e:=m.F) (sV rfl rfl) (by simp) λi o=>?_
  have OX:i<3:=by grind
  obtain⟨f,l⟩:=nw (m.F i);have d:=F_0 m OX;rw[<-l]at d ⊢;have g:Ek (toB (op2 jG Q4 Qd)) (S0 [none,some f,some R]) (i==j):=bT (b2 (b2 rfl rfl (d _)) (b2 rfl rfl (hR _)) (acH m OX a _));cases k:(i==j)with
  | true=>rw[k]at g;exact OZ rfl g rfl
  | false=>rw[k]at g;exact KI rfl g
 refine b2 c rfl ?_
 match j,a with
 | 0,_=>rfl
 | 1,_=>rfl
 | 2,_=>rfl
def Md.ps(m:Md):Nat->List Rk
 | 0=>[]
 | 1=>m.P
 | _=>m.hd
def Md.so(m:Md):Nat->List Str
 | 0=>[]
 | 1=>m.so1.map m.nm
 | _=>m.Tb.map m.nm
noncomputable def Md.hr(m:Md):Nat->Bool
 | 0=>false
 | 1=>!(m.bk%4==0)&&!(m.bk%4==3)
 | _=>true
def KP(m:Md):Ro->List Nat
 | .call _ j _=>if m.hr j=true then wJ (m.ps j) (m.so j)else []
 | _=>[]
abbrev stI(l:List Nat):PV:=.lst (l.map λi=>.str (sI i))
def Gp(l:List Nat):noRef (stI l)=true:=by simp[noRef,gw]
def vJ(m:Md)(j:Nat):(m.ps j).length<=3:=by
 unfold Md.ps;split
 ·simp
 ·unfold Md.P;split<;>simp
 ·unfold Md.hd;simp only[bK,jQ,aR,tu,tF]
  lia
noncomputable def F_1(m:Md)(a:j<3)(H:List aE):bf H (m.F j) (.int 1)=some (.aq ((m.ps j).map bj)):=by
 match j,a with
 | 0,_=>rfl
 | 1,_=>rfl
 | 2,_=>rfl
def Md.rs(m:Md)(j:Nat):PV:=if j=1 then .aq [.str (hw m.b5),enc m.t5,.aq ((m.so 1).map .str)]else .aq [.str (hw m.b4),enc m.t4,.aq ((m.so 2).map .str)]
noncomputable def F_2(m:Md)(a:j<3)(hr:m.hr j=true)(H:List aE):bf H (m.F j) (.int 2)=some (m.rs j):=by
 have e:∀l:List Nat,m.sT l=.aq ((l.map m.nm).map PV.str):=λl=>by unfold Md.sT;rw[bY];rfl
 match j,a with
 | 0,_=>cases hr
 | 1,_ =>
  have hr:(!(m.bk%4==0)&&!(m.bk%4==3))=true:=hr;simp at hr;show some m.res=_;unfold Md.res Md.rs;rw[if_neg hr.1,if_neg hr.2,if_pos rfl,e];rfl
 | 2,_ =>
  show some (PV.aq [.str (hw m.b4),enc m.t4,m.sT m.Tb])=_;rw[e];rfl
def acI(m:Md)(j:Nat)(H:List aE):∃b,bf H (m.rs j) (.int 0)=some (.str (hw b)):=by
 unfold Md.rs;split<;>exact⟨_,rfl⟩
def acJ(m:Md)(a:j=1\/j=2)(H:List aE):bf H (m.rs j) (.int 2)=some (.aq ((m.so j).map .str)):=by
 rcases a with rfl | rfl<;>rfl
def U0{m:Md}(a:j<3)(hr:m.hr j=true):j=1\/j=2:=by
 match j,a with
 | 0,_=>cases hr
 | 1,_=>exact .inl rfl
 | 2,_=>exact .inr rfl
def acK(k:Nat)(m:Md)(j:Nat):Gives (run txt (k+1) "is_holder" [m.rs j] []) (.bl true):=by
 obtain⟨b,a⟩:=acI m j [];rw[my];refine gV (rS (b2 (b2 rfl rfl a) rfl ((Ta _ _ _ _).trans ?_))) rfl;cases b<;>kernel_rfl
def Kp(k:Nat)(h:cB m most)(hr:r∈m.L):Gives (run txt (k+2) "source_holders" [m.prog,cz m.fn r] []) (stI (KP m r)):=by
 rw[nh];have ok:=h.ok r hr;have w:∀p:PV,(∀H,bf H p (.int 0)=some (.str (UX r)))->Ek (toB (op2 KA Q4 (kS "call"))) (S0 [some m.prog,some p,none]) (!(UX r==Str.ofString "call")):=λp hp=>bT (b2 (b2 rfl rfl (hp _)) rfl (vv _ _ _))
 have hw:=w (cz m.fn r) λH=>UY _ H r
 have e:(UX r==Str.ofString "call")=false->KP m r=[]->Gives (dJ (jL (run txt (k+1))) 3 [m.prog,cz m.fn r] []) (stI (KP m r)):=λT X=>by
  rw[T]at hw;rw[X];exact gV (o9 (iT hw (rS rfl))) rfl
 cases r with
 | put s o=>exact e (by kernel_rfl) rfl
 | set s g a b=>exact e (by kernel_rfl) rfl
 | vA t s=>exact e (by kernel_rfl) rfl
 | vD t s=>exact e (by kernel_rfl) rfl
 | oT x b s=>exact e (by cases b<;>kernel_rfl) rfl
 | Gn a i n=>exact e (by kernel_rfl) rfl
 | go n=>exact e (by kernel_rfl) rfl
 | KN a=>exact e (by kernel_rfl) rfl
 | iU z=>exact e (by kernel_rfl) rfl
 | call Y j Z =>
  obtain⟨l,_⟩:=ok;obtain⟨R,M⟩:=nw (cz m.fn (.call Y j Z));have hR:∀H,bf H R (.int 2)=some (m.fn j):=λH=>by rw[M];rfl
  rw[<-M]at hw ⊢;have v:=qX m l hR none;have hw:=hw;obtain⟨P,hP⟩:=nw m.prog;rw[<-hP]at v hw ⊢;obtain⟨f,C⟩:=nw (m.F j);have N:=F_1 m l;rw[<-C]at v N;show Gives _ (stI (if m.hr j=true then wJ (m.ps j) (m.so j)else []))
  by_cases c:m.hr j=true
  ·rw[if_pos c];have B:=F_2 m l c;rw[<-C]at B;have D:=U0 l c;obtain⟨b,hb⟩:=acI m j [];have nn:qD (m.rs j)=false:=by unfold Md.rs;split<;>rfl
   have t1:Ek (dk (toB (op2 Zj Qd (aV (.cf)))) (aV true) (nY (eH (bnd (aj Qd (aV [])) (bD 0 1 (run txt (k+1) "is_holder")))))) (S0 [some P,some R,some f]) false:=iF (bT (b2 (b2 rfl rfl (B _)) rfl (by show some (PV.bl (qD (m.rs j)))=_;rw[nn]))) (nB (tR (cb (cA (b2 rfl rfl (B _)) rfl) rfl rfl (acK k m j)) rfl))
   refine gV (sq (iF hw rfl) (sq (aS v rfl) (sq (iF t1 rfl) (rS (s1:=S0 [some P,some R,some f]) ?_)))) (Gp _);have en:=Dl bj (m.ps j) 0 [] rfl;refine S3 (sG (by rw[<-en];exact eV (b2 rfl rfl (N _)) rfl)) (by rw[dY];have:=vJ m j;lia) λi hi=>?_
   have OX:=de.mp hi;have hp3:=vJ m j;rw[dZ,f9];obtain⟨q,hq⟩:=nw ((m.ps j).getD i ("",.ow .num));rw[<-hq];have g:Ek (toB (op2 (ku false) (op2 bf (rd 2) (kI 0)) (op2 bf (op2 bf (rd 3) (kI 2)) (kI 2)))) (S0 [none,some (.int i),some (bj q),some f]) ((m.so j).any λy=>y==q.1):=bT (b2 (b2 rfl rfl rfl) (b2 (b2 rfl rfl (B _)) rfl (acJ m D _)) (AG _ _ _ _))
   cases Q:((m.so j).any λy=>y==q.1)with
   | true=>rw[Q]at g;exact OZ rfl g (bV (cA rfl rfl) (NR _ i (by lia)))
   | false=>rw[Q]at g;exact KI rfl g
  ·rw[if_neg c];have E:∃d:PV,(∀H,bf H f (.int 2)=some d)/\(qD d=true\/qD d=false/\Gives (run txt (k+1) "is_holder" [d] []) (.bl false)):=by
    rw[C]
    match j,l,c with
    | 0,_,_=>exact⟨.cf,λ_=>rfl,.inl rfl⟩
    | 1,_,c =>
     refine⟨m.res,λ_=>rfl,?_⟩
     have c:¬((!(m.bk%4==0)&&!(m.bk%4==3))=true):=c;simp at c;unfold Md.res;by_cases I:m.bk%4=0
     ·rw[if_pos I];exact .inl rfl
     ·rw[if_neg I,if_pos (c I)];refine .inr ⟨?_,?_⟩
      ·cases m.s2<;>rfl
      ·exact eW k (.ow m.s2)
    | 2,_,c=>exact absurd rfl c
   obtain⟨d,J,u⟩:=E;exact gV (sq (iF hw rfl) (sq (aS v rfl) (o9 (iT (by
    rcases u with u | ⟨u,d3⟩
    ·exact iT (bT (b2 (b2 rfl rfl (J _)) rfl (by show some (PV.bl (qD d))=_;rw[u]))) rfl
    ·exact iF (bT (b2 (b2 rfl rfl (J _)) rfl (by show some (PV.bl (qD d))=_;rw[u]))) (nB (tR (cb (cA (b2 rfl rfl (J _)) rfl) rfl rfl d3) rfl))) (rS rfl))))) rfl
abbrev qY(m:Md):PV:=.nd (.kP "Course" ["function","listed","follow","sources"]) [m.F1,.lst (m.as.map eN),.lst (m.vH.map nT),.lst (m.L.map λr=>stI (KP m r))]
theorem Ov:∀l:List (Nat×bW),ah (l.map eN)=true
 | []=>rfl
 | _::l=>by rw[aH];simp[ah,eN,l9,noRef,Ov l]
def qt(h:cB m most):noRef (qY m)=true:=by
 have:ah (m.L.map λr=>stI (KP m r))=true:=oV _ λp hp=>by
  obtain⟨r,_,rfl⟩:=az.mp hp;exact Gp _
 simp[noRef,ah,Dg h,Ov,Gh,this]
def YR(a:live ⟨k,ps⟩=true)(hp:ah ps=true):we (⟨k,ps⟩::r) 4 (.ref 0)=some (.nd k ps):=by
 unfold we;rw[if_neg (by simp[noRef])]
 show(if live ⟨k,ps⟩=true then(c9 (we (⟨k,ps⟩::r) 3) ps).map (PV.nd k)else none)=_
 rw[if_pos a,HJ ps hp];rfl
theorem xX(k:Nat){P I F:PV}{AS NX:List PV}{L:List α}{c G:α->PV}(b:noRef P=true)(d:noRef I=true)(i:∀r∈L,noRef (c r)=true)(f:∀H,bf H P I=some F)(j:∀H,bf H F (.int 4)=some (.aq (L.map c)))(v:L.length<=1000)(m:Gives (run txt k "acts" [P,I] []) (.lst AS))(o:Gives (run txt k "nexts" [P,I] []) (.lst NX))(t:∀r∈L,Gives (run txt k "source_holders" [P,c r] []) (G r))(u:ah [F,.lst AS,.lst NX,.lst (L.map G)]=true)(s:dB)(w:s.h=[])(ht:Ev ts s [P,I] s):Ev (Xh "Course" 3 (Nt txt (run txt k) "Course") ts) s (.nd (.kP "Course" ["function","listed","follow","sources"]) [F,.lst AS,.lst NX,.lst (L.map G)]) s:=by
 rw[JN];refine eB ht ?_;rw[if_pos ⟨rfl,by grind⟩]
 have e:dJ (Cv (run txt k)) 3 [.ref 0,P,I] [⟨.kP "Course" [],[]⟩]=some (.ok .cf,[⟨.kP "Course" ["function","listed","follow","sources"],[F,.lst AS,.lst NX,.lst (L.map G)]⟩]):=by
  refine Sz (KH:=[some (.ref 0),some P,some I]) (sq (s1:=⟨[some (.ref 0),some P,some I],[⟨.kP "Course" ["function"],[F]⟩]⟩) ?_ (sq (s1:=⟨[some (.ref 0),some P,some I],[⟨.kP "Course" ["function","listed"],[F,.lst AS]⟩]⟩) ?_ (sq (s1:=⟨[some (.ref 0),some P,some I],[⟨.kP "Course" ["function","listed","follow"],[F,.lst AS,.lst NX]⟩]⟩) ?_ ?_)))
  ·exact eB (b2 rfl rfl (f _)) (eB rfl (by kernel_rfl))
  ·exact eB (cb (cA rfl (cA rfl rfl)) rfl (by simp[ah,b,d]) m) (eB (a:=.ref 0) rfl (by kernel_rfl))
  ·exact eB (cb (as:=[P,I]) (cA rfl (cA rfl rfl)) rfl (by simp[ah,b,d]) o) (eB (a:=.ref 0) rfl (by kernel_rfl))
  ·refine eB (cM (l:=L) (e:=c) (G:=G) (sV (p:=.aq (L.map c)) (b2 (x:=F) (b2 (x:=P) rfl rfl (f _)) rfl (j _)) rfl) (by lia) λq g=>?_) (eB (a:=.ref 0) rfl (by kernel_rfl))
   exact e1 (Jp:=[none,some (c q),some P]) (h1:=[⟨.kP "Course" ["function","listed","follow"],[F,.lst AS,.lst NX]⟩]) rfl (cb (as:=[P,c q]) (cA rfl (cA rfl rfl)) rfl (by simp[ah,b,i q g]) (t q g))
 rw[e];show(we [⟨.kP "Course" ["function","listed","follow","sources"],[F,.lst AS,.lst NX,.lst (L.map G)]⟩] 4 (.ref 0)).map _=_;rw[YR rfl u];rfl
def Ow(k:Nat)(hk:14<=k)(h:cB m most)(a:most<=20)(s:dB)(b:s.h=[])(ht:Ev ts s [m.prog,.int 1] s):Ev (Xh "Course" 3 (Nt txt (run txt k) "Course") ts) s (qY m) s:=by
 obtain⟨k,rfl⟩:∃j,k=j+2:=⟨k-2,by lia⟩
 exact xX (k+2) (c:=cz m.fn) (j9 h) rfl (λr hr=>Dd mI r (h.ok r hr)) vI (λ_=>rfl) (by have:=(Dh h).1;lia) (AD h (by lia) (k+1) (by lia)) (iQ h a k (by lia)).1 (λr hr=>Kp k h hr) (qt h) s b ht
section
variable {m:Md} {most:Nat}
def qZ{n:Nat}(a:m.as[n]?=some q)(H:List aE):bf H (.lst (m.as.map eN)) (.int (n:Int))=some (eN q):=atI_nat (by rw[cw,a];rfl)
def Ik{n:Nat}(a:m.vH[n]?=some l)(H:List aE):bf H (.lst (m.vH.map nT)) (.int (n:Int))=some (nT l):=atI_nat (by rw[cw,a];rfl)
def acL{j:Nat}(hr:m.L[j]?=some r)(H:List aE):bf H (.lst (m.L.map λr=>stI (KP m r))) (.int (j:Int))=some (stI (KP m r)):=atI_nat (by rw[cw,hr];rfl)
def xY(m:Md)(g:Int)(x:Str):Bool:=decide (0<=g)&&(match m.as[g.toNat]? with | some q=>q.2.t&&(q.2.n==x) | none=>false)
def ge_int(h:List aE)(i j:Int):Zi h (.int i) (.int j)=some (.bl (decide (i>=j))):=rfl
def qu(k:Nat)(j:g<(m.as.length:Int))(x:Str):Gives (run txt (k+1) "is_through" [qY m,.int g,.str x] []) (.bl (xY m g x)):=by
 rw[lq];obtain⟨C,d⟩:=nw (qY m);have i:Ek Q5 (S0 [some C,some (.int g),some (.str x)]) (.lst (m.as.map eN)):=by rw[d];rfl
 rw[<-d];unfold xY;have a:Ek (op2 Zi (rd 1) (kI 0)) (S0 [some C,some (.int g),some (.str x)]) (.bl (decide (0<=g))):=b2 rfl rfl (ge_int _ _ _);by_cases c:0<=g
 ·rw[dq c]at a ⊢;obtain⟨n,rfl⟩:=DS c;obtain⟨q,e⟩:∃q,m.as[n]?=some q:=⟨_,b7 (by lia)⟩
  rw[fu,e];have f:Ek (op2 bf Q5 (rd 1)) (S0 [some C,some (.int n),some (.str x)]) (eN q):=b2 i rfl (qZ e _);exact gV (rS (anT a rfl (anB (b:=q.2.n==x) (b2 f rfl rfl) (b2 (b2 f rfl rfl) rfl (dz _ _ _))))) rfl
 ·rw[iu c]at a ⊢;exact gV (rS (anF a rfl)) rfl
def lB(k:Nat)(hk:6<=k){F:PV}{ks:List Rk}(K:kz ks)(fn:oM F ks)(a:(x,d)∈ks):Gives (run txt (k+1) "count_leaves_of" [F,.str x] []) (.int ((lv (held d)).length:Int)):=by
 obtain⟨j,rfl⟩:∃j,k=j+2:=⟨k-2,by lia⟩
 have hd:=(K.good _ a).1.1;have g:=fn (j+1) _ a;have b:=u7 j d;have c:=eS.all LA (held d) (j+1) (by have:=hd.2;simp only at this;lia) (by have:=xB (held d);have:=hd.1;simp only at this;lia)
 rw[l7];obtain⟨D,f⟩:=nw (encK d);obtain⟨E,e⟩:=nw (enc (held d));rw[<-f,<-e]at b;rw[<-e]at c;refine gV (rS (bV (cA (cb (cA (cb (cA (cb (cA rfl (cA rfl rfl)) rfl rfl (by grind)) rfl) rfl rfl b) rfl) rfl rfl c) rfl) ?_)) rfl
 show some (PV.int (((cj (lv (held d))).length:Nat):Int))=_;rw[fF]
structure Ft where
 n:Nat
 x:Str
 l:Int
 g:Int
 s:Int
noncomputable def kF(f:Ft):List bO:=[.inl (f.n:Int),.inr f.x,.inl f.l,.inl f.g,.inl f.s]
def eG(f:Ft):PV:=.aq [.int (f.n:Int),.str f.x,.int f.l,.int f.g,.int f.s]
def wK(i:Nat)(q:Rk):List Ft:=if iS q.2=true then(List.range (lv (held q.2)).length).map fun(l:Nat)=>⟨0,q.1,(l:Int),-1-(i:Int),(l:Int)⟩else []
def gy:Nat->List Rk->List Ft
 | _,[]=>[]
 | i,q::l=>wK i q++gy (i+1) l
theorem Ox:∀l:List Ft,ah (l.map eG)=true
 | []=>rfl
 | _::l=>by rw[aH];simp[ah,eG,noRef,Ox l]
def vK(h:kz K)(a:q∈K):(wK i q).length<=3:=by
 unfold wK;split
 ·rw[aD,dY];exact(h.good q a).2
 ·simp
theorem vL(k:Nat)(hk:7<=k){F:PV}{ks:List Rk}(K:kz ks)(fn:oM F ks)(v:noRef F=true):∀(ps:List Rk) (i:Nat) (acc:List Ft) (c d a:Option PV),(∀q∈ps,q∈ks)->acc.length+3*ps.length<=1000->i+ps.length<=100 ->
  ∃x o b,dX QQ (i9 (run txt k)) (dG i (ps.map bj)) ⟨[some F,some (.ref 0),c,d,a],[⟨.lst,acc.map eG⟩]⟩=some (.ok .nx,⟨[some F,some (.ref 0),x,o,b],[⟨.lst,(acc++gy i ps).map eG⟩]⟩)
 | [],i,acc,c,d,a,_,_,_=>⟨c,d,a,by simp[gy];rfl⟩
 | q::ps,i,acc,c,d,a,hp,y,B=>by
  rw[aR]at y B;have t:=hp q aO;have J:=vK K (i:=i) t;obtain⟨j,rfl⟩:∃j,k=j+1:=⟨k-1,by lia⟩
  have step:∃b,Ev (i9 (run txt (j+1))) ⟨[some F,some (.ref 0),some (.int i),some (bj q),a],[⟨.lst,acc.map eG⟩]⟩ .nx ⟨[some F,some (.ref 0),some (.int i),some (bj q),b],[⟨.lst,(acc++wK i q).map eG⟩]⟩:=by
   have cl:=lB j (by lia) K fn t
   have f:Ek (eH (bnd (aj Qx (aV [])) (bD 0 1 (run txt (j+1) "is_holder")))) ⟨[some F,some (.ref 0),some (.int i),some (bj q),a],[⟨.lst,acc.map eG⟩]⟩ (iS q.2):=tR (cb (cA (b2 rfl rfl rfl) rfl) rfl (by simp[ah,sE]) (eW j q.2)) rfl
   unfold wK;by_cases g:iS q.2=true
   ·rw[g]at f;rw[if_pos g,bU];have u:=(K.good q t).2;obtain⟨n,w⟩:=nw ((lv (held q.2)).length);rw[<-w]at cl u;refine⟨some (.int n),iT f (sq (aS (cb (cA rfl (cA (b2 rfl rfl rfl) rfl)) rfl (by simp[ah,v,noRef]) cl) rfl) (dS (p:=.cf) (sx rfl rfl (cA (cM (G:=fun(l:Nat)=>eG ⟨0,q.1,(l:Int),-1-(i:Int),(l:Int)⟩) (kn (cA rfl rfl) (dn ‹_›)) (by grind) λl L=>?_) rfl) ?_)))⟩
    ·have C:lO l=iN l:=by unfold lO iN;rw[kK]
     rw[C];exact e1 rfl (tU (cA rfl (cA (b2 rfl rfl rfl) (cA rfl (cA (b2 rfl rfl rfl) (cA rfl rfl))))) (by simp))
    ·rw[w,bY];exact xC rfl rfl (by grind)
   ·have g:iS q.2=false:=by grind
    rw[g]at f;rw[if_neg (by grind),dc]
    exact⟨a,iF f rfl⟩
  obtain⟨b,D⟩:=step;obtain⟨E,H,I,e⟩:=vL (j+1) hk K fn v ps (i+1) (acc++wK i q) (some (.int i)) (some (bj q)) b (λr hr=>hp r (aM _ hr)) (by grind) (by lia)
  refine⟨E,H,I,?_⟩;rw[gy,<-cC,aH,dG];exact fC rfl D e
def Tf:∀q∈m.P,q∈m.ks:=λq a=>fI _ a
def Dn:m.P.length=2:=by unfold Md.P;split<;>rfl
def AH(k:Nat)(hk:7<=k)(h:cB m most):run txt (k+1) "held_at_first" [m.F1] []=some (.ok (.ref 0),[⟨.lst,(gy 0 m.P).map eG⟩]):=by
 obtain⟨a,b,c,e⟩:=vL k hk h.ks (Ot h) (Dg h) m.P 0 [] none none none Tf (by rw[Dn];decide) (by rw[Dn];decide)
 rw[f9]at e;rw[jc];exact iJ (sq rfl (sq (fS (sG (eV (b2 rfl rfl rfl) rfl)) e) (rS rfl)))
end
section
variable {m:Md} {most:Nat}
def Oy:List Str:=[sI 0,sI 1,sI 2,sI 3]
structure YT (m:Md) (q:Nat×bW):Prop where
 nm:q.2.k=""\/q.2.k∈xV m.ks\/q.2.k∈Oy
 tk:q.2.k≠""->eK q.2=true\/(q.2.w="take"/\eK q.2=false/\∃b s j ar,m.L[q.1]?=some (.call (some (q.2.k,.ho b s)) j ar)/\(q.2.k,Kn.ho b s)∈m.ks/\m.hr j=true/\j<3)
def Dp{a:bW}(h:a.k=""):YT m (i,a):=⟨.inl h,λz=>absurd h z⟩
theorem Dq:∀(L:List (List bW)) (i:Nat) (q:Nat×bW),q∈iM i L->∃j as,q.1=i+j/\L[j]?=some as/\q.2∈cR as
 | [],_,_,h=>nomatch h
 | as::L,i,q,h=>by
  rw[iM,bB]at h;rcases h with h | h
  ·obtain⟨a,b,rfl⟩:=az.mp h;exact⟨0,as,rfl,rfl,b⟩
  ·obtain⟨j,bs,e,c,d⟩:=Dq L (i+1) q h;exact⟨j+1,bs,by lia,by simpa using c,d⟩
def vM(c:q∈m.as):∃r,m.L[q.1]?=some r/\q.2∈cR (O1 r):=by
 obtain⟨j,as,b,a,d⟩:=Dq m.A 0 q c;unfold Md.A at a;rw[cw]at a;obtain⟨r,hr,rfl⟩:=bE a;rw[dZ]at b;rw[<-b]at hr;exact⟨r,hr,d⟩
def Dr(h:cB m most)(a:q∈m.as):vx (xV m.ks) 3 q.2:=by
 obtain⟨r,hr,jD⟩:=vM a;exact Kb (YM h (cK hr)).ok q.2 jD
def U1:∀q∈DL a,q.k="":=λq b=>by
 unfold DL at b;split at b
 ·rw[aG]at b;subst b;rfl
 ·cases b
def Ds:∀q∈oN o,q.k="":=λq a=>by
 cases o with
 | n i=>cases a
 | s s =>
  rcases bB.mp a with h | h
  ·exact U1 q h
  ·rw[aG]at h;subst h;rfl
def U2:∀q∈wH s,q.k="":=λq a=>by
 unfold wH at a;split at a
 ·rw[aG]at a;subst a;rfl
 ·rcases bB.mp a with h | h
  ·exact U1 q h
  ·rw[aG]at h;subst h;rfl
theorem Oz:∀(l:List Rk) (i:Nat),i+l.length<=4->∀q∈fN i l,q.k=""\/eK q=true/\q.k∈Oy
 | [],_,_,_,h=>nomatch h
 | r::l,i,a,q,h=>by
  rw[aR]at a;simp only[fN,aW]at h;rcases h with rfl | h
  ·obtain⟨x,d⟩:=r;cases d with
   | ow s=>exact .inl rfl
   | ho b s =>
    refine .inr ⟨?_,?_⟩
    ·cases b<;>kernel_rfl
    ·have:i=0\/i=1\/i=2\/i=3:=by lia
     rcases this with rfl | rfl | rfl | rfl<;>simp[Oy,tkA,tA]
  ·exact Oz l (i+1) (by lia) q h
def Dt(h:cB m most)(w:q∈m.as):YT m q:=by
 obtain⟨r,hr,jD⟩:=vM w;have ok:=h.ok r (cK hr);obtain⟨i,a⟩:=q;have c:∀as:List bW,(∀q∈as,q.k="")->a∈cR as->YT m (i,a):=λas f u=>by
  cases as with
  | nil =>
   simp only[cR,aG]at u;subst u;exact Dp rfl
  | cons b l=>exact Dp (f a u)
 have two:∀{x y:bW},x.k=""->y.k=""->∀q∈[x,y],q.k="":=λ{x y} B I q w=>by
  grind
 have p:∀{as bs:List bW},(∀q∈as,q.k="")->(∀q∈bs,q.k="")->∀q∈as++bs,q.k="":=by grind
 cases r with
 | put s o=>exact c _ (p Ds U2) jD
 | set s g a b=>exact c _ (p (p Ds Ds) U2) jD
 | vA t s=>exact c _ (two rfl rfl) jD
 | vD t s=>exact c _ (two rfl rfl) jD
 | Gn a i n=>exact c _ (p Ds λq (z:q∈([]:List bW))=>nomatch z) jD
 | go n=>exact c _ (λq (z:q∈([]:List bW))=>nomatch z) jD
 | KN a=>exact c _ Ds jD
 | iU z =>
  cases z with
  | none=>exact c _ (λq (z:q∈([]:List bW))=>nomatch z) jD
  | some r =>
   refine c _ (λq w=>?_) jD
   rw[show O1 (.iU (some r))=[Zr r.1 r.2]from rfl,aG]at w
   subst w;obtain⟨x,d⟩:=r;cases d<;>rfl
 | oT x b s =>
  have B:=ok.2;have:a=qm (lw b) s x:=by
   have:a∈[qm (lw b) s x]:=jD;simpa using this
  subst this;exact⟨.inr (.inl (az.mpr ⟨_,B,rfl⟩)),λ_=>.inl (by cases b<;>kernel_rfl)⟩
 | call C j v =>
  obtain⟨D,ht,J,L,M,E⟩:=ok;rcases bB.mp (by
   have e:cR (O1 (.call C j v))=fN 0 v++jd::ie C:=by
    show cR (fN 0 v++jd::ie C)=_;cases fN 0 v<;>rfl
   rw[<-e];exact jD)with f | f
  ·rcases Oz v 0 (by lia) a f with u | ⟨u,H⟩
   ·exact Dp u
   ·exact⟨.inr (.inr H),λ_=>.inl u⟩
  ·rcases aW.mp f with rfl | f
   ·exact Dp rfl
   ·cases C with
    | none=>cases f
    | some r =>
     obtain⟨x,d⟩:=r;cases d with
     | ow s =>
      simp only[ie,aG]at f;subst f;exact Dp rfl
     | ho b s =>
      simp only[ie,aG]at f;subst f;have B:=E (x,.ho b s) rfl;refine⟨.inr (.inl (az.mpr ⟨_,B,rfl⟩)),λ_=>.inr ⟨rfl,(by show(Str.ofString "lend"==Str.ofString "take" || (Str.ofString "sole"==Str.ofString "take" || false))=false;decide +kernel),b,s,j,v,hr,B,?_,D⟩⟩
      have ht:=ht
      match j,D,ht with
      | 0,_,ht=>cases ht
      | 1,_,ht =>
       have ht:some (Kn.ho b s)=m.z.map (·.2):=ht;show(!(m.bk%4==0)&&!(m.bk%4==3))=true;unfold Md.z at ht;by_cases N:m.bk%4=0
       ·grind
       ·grind
      | 2,_,_=>rfl
def lT(h:cB m most)(a:most<=20):m.vH.length=m.as.length:=(iQ h a 12 (au _)).2.len
def qw(h:cB m most)(a:most<=20){n:Nat}(b:m.vH[n]?=some l):l.length<=2/\∀q∈l,q<m.as.length:=(iQ h a 12 (au _)).2.ok l (cK b)
noncomputable def AI(n:Nat)(a:bW)(b:Nat):List Ft:=(List.range a.m.toNat).map fun(j:Nat)=>⟨b,a.k,(j:Int),(n:Int),a.f+(j:Nat)*1⟩
def jo(m:Md)(n:Nat)(a:bW)(l:List Nat):List Ft:=if eK a=true/\xY m (n:Int) a.k=false then l.flatMap (AI n a)else []
def Du(ok:vx X 3 a)(n b:Nat):(AI n a b).length<=3:=by
 have c:=ok.f0;have d:=ok.m0;have e:=ok.few;rw[AI,aD,dY]
 lia
theorem Dv(k:Nat)(r:noRef C=true){n:Nat}(ok:vx X 3 q.2):∀(l:List Nat) (acc:List Ft) (d:Option PV),acc.length+3*l.length<=1000 ->
  ∃g,dX (aX 4) (uX (run txt (k+1))) (l.map iN) ⟨[some C,some (.int (n:Int)),some (eN q),some (.ref 0),d],[⟨.lst,acc.map eG⟩]⟩=some (.ok .nx,⟨[some C,some (.int (n:Int)),some (eN q),some (.ref 0),g],[⟨.lst,(acc++l.flatMap (AI n q.2)).map eG⟩]⟩)
 | [],acc,d,_=>⟨d,by simp;rfl⟩
 | b::l,acc,d,u=>by
  rw[aR]at u;have B:=Du ok n b;obtain⟨g,e⟩:=Dv k r ok l (acc++AI n q.2 b) (some (iN b)) (by grind)
  refine⟨g,?_⟩;rw[jg,<-cC];refine fC rfl (dS (p:=.cf) (sx (s2:=⟨[some C,some (.int (n:Int)),some (eN q),some (.ref 0),some (iN b)],[⟨.lst,acc.map eG⟩]⟩) rfl rfl (cA (x:=.lst ((AI n q.2 b).map eG)) ?_ rfl) ?_)) e
  ·have t:=Km k (by decide) ok
   have v:∀(l:List Nat) i (f:Nat->Int),dG i (l.map λj=>PV.int (f j))=(List.range l.length).map λj=>qE (.int (i+j:Nat)) (.int (f (l.getD j 0))):=λl=>by
    induction l with
    | nil=>exact λ_ _=>rfl
    | cons a l ih =>
     intro i f;rw[aH,dG,ih (i+1) f,aR,DV,aH,bY]
     congr 1
     refine yi λj _=>?_
     show _=qE (.int ((i+(j+1):Nat):Int)) _;rw[show i+1+j=i+(j+1) by lia]
     rfl
   have w:(tls q.2).map PV.int=(List.range q.2.m.toNat).map λj=>PV.int (q.2.f+(j:Nat)*1):=by unfold tls;rw[bY];rfl
   have c:=v (List.range q.2.m.toNat) 0 (λj=>q.2.f+j*1)
   rw[<-w,dY]at c;rw[AI,bY];refine cM (sG (by rw[<-c];exact eV (p:=.lst ((tls q.2).map .int)) (cb (as:=[eN q]) (cA rfl rfl) rfl (by simp[ah,noRef,eN,l9]) t) rfl)) (by rw[dY];have h1:=ok.f0;have D:=ok.few;lia) λj o=>?_
   have o:=de.mp o;have y:(List.range q.2.m.toNat).getD j 0=j:=by grind
   rw[y,dZ];exact e1 (Jp:=[none,some (.int (j:Int)),some (.int (q.2.f+(j:Nat)*1)),some (eN q),some (iN b),some (.int (n:Int))]) (h1:=[⟨.lst,acc.map eG⟩]) rfl (tU (ps:=[.int (b:Int),.str q.2.k,.int (j:Int),.int (n:Int),.int (q.2.f+(j:Nat)*1)]) (cA rfl (cA (b2 (x:=eN q) rfl rfl rfl) (cA rfl (cA rfl (cA rfl rfl))))) (by simp))
  ·rw[bU];exact xC (n:=0) rfl rfl (by grind)
def Th(k:Nat)(h:cB m most)(t:most<=20){n:Nat}(c:m.as[n]?=some q)(f:m.vH[n]?=some l):Gives (run txt (k+2) "newly_lent" [qY m,.int (n:Int)] []) (.lst ((jo m n q.2 l).map eG)):=by
 rw[ll];have x:=(cS.mp c).1;have ok:=Dr h (cK c);have i:=qu (m:=m) k (g:=(n:Int)) (by lia) q.2.k
 have u:=ka k q;have j:=qt h;obtain⟨a,e⟩:=Dv k j ok l [] none (by have:=(qw h t f).1;simp;lia)
 rw[f9]at e;have o:∀(d v a:Option PV),Ek Q5 (S0 [some (qY m),some (.int n),d,v,a]) (.lst (m.as.map eN)):=λ_ _ _=>rfl
 have p:∀(d a:Option PV),Ek QM ⟨[some (qY m),some (.int n),d,some (.ref 0),a],[⟨.lst,[]⟩]⟩ (.lst (m.vH.map nT)):=λ_ _=>rfl
 obtain⟨C,w⟩:=nw (qY m);rw[<-w]at i j e o p ⊢;have r:Ev (dh (op2 bf Q5 (rd 1)) (aX 2)) (S0 [some C,some (.int n),none,none,none]) .nx (S0 [some C,some (.int n),some (eN q),none,none]):=aS (b2 (o _ _ _) rfl (qZ c _)) rfl;have b:Ek (dk (nY (eH (bnd Qa (bD 0 1 (run txt (k+1) "is_lending"))))) (aV true) (eH (bnd (aj (rd 0) (aj (rd 1) (aj QK (aV [])))) (bD 0 3 (run txt (k+1) "is_through"))))) (S0 [some C,some (.int n),some (eN q),none,none]) (!eK q.2 || xY m n q.2.k):=oB (nB (tR (cb (cA rfl rfl) rfl rfl u) rfl)) (tR (cb (cA rfl (cA rfl (cA (b2 rfl rfl rfl) rfl))) rfl rfl i) rfl);unfold jo;by_cases hc:eK q.2=true/\xY m n q.2.k=false
 ·rw[hc.1,hc.2]at b;rw[if_pos hc];exact⟨.ref 0,_,iJ (sq r (sq (iF b rfl) (sq rfl (sq (fS (sV (b2 (p _ _) rfl (Ik f _)) rfl) e) (rS rfl))))),j7 (Ox _)⟩
 ·rw[if_neg hc];have:(!eK q.2 || xY m n q.2.k)=true:=by
   grind
  rw[this]at b;exact gV (sq r (o9 (iT b (rS rfl)))) rfl
end
theorem vO{bd:PV->List aE->Option (Option PV×List aE)}{h:List aE}{n:Nat}{ps:List PV}{F:PV->Option PV}(b:cO h (.ref n)=some (.lst,ps))(c:∀p∈ps,bd p h=some (F p,h)):∀(f i:Nat),ps.length-i<f->i<=ps.length->qF bd n f i h=some ((ps.drop i).filterMap F,h)
 | 0,i,hf,_=>by lia
 | f+1,i,hf,g=>by
  have nx:Hf n h i=some ps[i]?:=by unfold Hf;rw[b]
  have d:qF bd n (f+1) i h=(match Hf n h i with
   | some (some p)=>(bd p h).bind λr=>(qF bd n f (i+1) r.2).map λs=>(r.1.toList++s.1,s.2)
   | some none=>some ([],h)
   | none=>none):=rfl
  rw[d,nx];by_cases a:i<ps.length
  ·rw[b7 a];show(bd ps[i] h).bind _=_;rw[c _ (List.getElem_mem a),dM];rw[vO b c f (i+1) (by lia) a,sP a]
   cases e:F ps[i]with
   | none=>rw[List.filterMap_cons_none e];rfl
   | some v=>rw[List.filterMap_cons_some e];rfl
  ·rw[pj (by lia),List.drop_eq_nil_of_le (by lia)]
   rfl
def agy{c:Type}{link:List (Option Nat)}{fi:Gx E3}{bd:Bd}{s s1:dB}{n:Nat}{l:List c}{e G:c->PV}{f:c->Bool}(g:Ev fi s (.cl n) s1)(i:s1.h[n]?=some ⟨.lst,l.map e⟩)(q:l.length<4000000)(d:∀a∈l,bd (bJ link s1.ρ) (e a) s1.h=some (if f a=true then some (G a)else none,s1.h)):Ev (cY false link fi bd) s (.lst ((l.filter f).map G)) s1:=by
 have z:∀l:List c,(∀a∈l,bd (bJ link s1.ρ) (e a) s1.h=some (if f a=true then some (G a)else none,s1.h))->(l.map e).filterMap (λp=>match bd (bJ link s1.ρ) p s1.h with | some (o,_)=>o | none=>none)=(l.filter f).map G:=by
  intro l;induction l with
  | nil=>exact λ_=>rfl
  | cons a l ih =>
   intro h;have j:=h a aO;have m:=ih λb d=>h b (aM _ d)
   rw[aH,s9,j,m];cases hf:f a<;>simp[hf]
 have k:=vO (bd:=bd (bJ link s1.ρ)) (F:=λp=>match bd (bJ link s1.ρ) p s1.h with | some (o,_)=>o | none=>none) (by
  show(s1.h[n]?).bind _=_;rw[i];rfl) (λp hp=>by
  grind) gF 0 (by rw[aD];show _<4000000;lia) (dE _)
 rw[yB,z l d]at k;refine eB g ?_;show(qF (bd (bJ link s1.ρ)) n gF 0 s1.h).bind _=_;rw[k];rfl
structure S4 where
 x:Str
 l:Int
 g:Int
 s:Int
def ig(o:S4):PV:=.aq [.str o.x,.int o.l,.int o.g,.int o.s]
def Ft.of(n:Nat)(o:S4):Ft:=⟨n,o.x,o.l,o.g,o.s⟩
def Ti(m:Md)(x:Str):Nat:=match mF m.ks x with
 | some d=>(lv (held d)).length
 | none=>0
def YU(m:Md)(j:Nat):List Nat:=match m.L[j]? with
 | some r=>KP m r
 | none=>[]
def lD(m:Md)(j:Nat)(x:Str):Bool:=((YU m j).map sI).any λy=>y==x
def given(m:Md)(q:Nat×bW)(f:Ft):List Int :=
 if eK q.2=true then(if(q.2.t&&O4 q.2 f.x f.l)=true then [f.l-q.2.f]else [])
 else if lD m q.1 f.x=true then(List.range (Ti m q.2.k)).map λi=>(0:Int)+(i:Nat)*1 else []
def kc(m:Md)(q:Nat×bW)(f:Ft):List S4:=if(q.2.k==Str.ofString "" || xY m f.g q.2.k)=true then []else(given m q f).map λl=>⟨q.2.k,l,f.g,f.s⟩
def iG(m:Md)(q:Nat×bW)(f:Ft):List S4:=(if(!(f.x==q.2.k)&&!xY m f.g q.2.k)=true then [⟨f.x,f.l,f.g,f.s⟩]else [])++kc m q f
def oX(m:Md)(n:Nat)(q:Nat×bW):Bool:=match m.as[n]? with
 | some p=>(p.1:Int)==(q.1:Int)
 | none=>false
def wL(m:Md)(q:Nat×bW)(f:Ft)(n:Nat):List Ft:=((iG m q f).filter λo=>oX m n q || !Txt.isdigit o.x).map (Ft.of n)
section
variable {m:Md} {most:Nat}
def AJ(h:cB m most){x:Str}{d:Kn}(a:(x,d)∈m.ks):Ti m x=(lv (held d)).length/\Ti m x<=3:=by
 have e:=lN m.ks (x,d) De a;have:=(h.ks.good _ a).2;unfold Ti;rw[e];exact⟨rfl,this⟩
def YV{q:Nat×bW}(a:q∈m.as):∃r,m.L[q.1]?=some r:=let ⟨r,h,_⟩:=vM a;⟨r,h⟩
def Tj(k:Nat)(hk:6<=k)(h:cB m most){q:Nat×bW}(e:q∈m.as)(d:q.2.k≠"")(f:Ft):Gives (run txt (k+2) "leaves_given" [qY m,eN q,eG f] []) (.lst ((given m q f).map .int)):=by
 rw[qk];have w:=ka k q;have B:=Ko k q f.x f.l;have g:=(Dt h e).tk d;have i:∀H,Ek (BV "sources" (rd 0)) ⟨[some (qY m),some (eN q),some (eG f)],H⟩ (.lst (m.L.map λr=>stI (KP m r))):=λ_=>rfl
 have o:∀H,Ek (BV "function" (rd 0)) ⟨[some (qY m),some (eN q),some (eG f)],H⟩ m.F1:=λ_=>rfl
 obtain⟨C,D⟩:=nw (qY m);rw[<-D]at i o ⊢;have c:Ek (eH (bnd Q0 (bD 0 1 (run txt (k+1) "is_lending")))) (S0 [some C,some (eN q),some (eG f)]) (eK q.2):=tR (cb (cA rfl rfl) rfl rfl w) rfl;unfold given;cases p:eK q.2 with
 | true =>
  rw[p]at c;rw[if_pos rfl];have a:Ek (dk (eH (op2 bf (rd 1) (kI 3))) (eH (bnd (aj (rd 1) (aj Qv (aj Qd (aV [])))) (bD 0 3 (run txt (k+1) "touches")))) (aV false)) (S0 [some C,some (eN q),some (eG f)]) (q.2.t&&O4 q.2 f.x f.l):=nD (tR (b2 rfl rfl rfl) rfl) (tR (cb (cA rfl (cA (b2 rfl rfl rfl) (cA (b2 rfl rfl rfl) rfl))) rfl rfl B) rfl);cases u:(q.2.t&&O4 q.2 f.x f.l)with
  | true =>
   rw[u]at a;rw[if_pos rfl];exact gV (o9 (iT c (rS (iT a (lS (cA (b2 (b2 rfl rfl rfl) (b2 rfl rfl rfl) rfl) rfl) (by simp)))))) rfl
  | false =>
   rw[u]at a;rw[if_neg bX];exact gV (o9 (iT c (rS (iF a rfl)))) rfl
 | false =>
  rw[p]at c;rw[if_neg bX];obtain⟨r,hr⟩:=YV e;rcases g with g | ⟨_,_,b,s,j,J,_,v,_⟩
  ·grind
  have E:lD m q.1 f.x=((KP m r).map sI).any λy=>y==f.x:=by
   unfold lD YU;rw[hr]
  have e1:stI (KP m r)=.lst (((KP m r).map sI).map .str):=by
   simp_all
  have a:Ek (toB (op2 (ku true) Qv (op2 bf (BV "sources" (rd 0)) Q4))) (S0 [some C,some (eN q),some (eG f)]) (!lD m q.1 f.x):=by
   rw[E];refine bT (b2 (b2 rfl rfl rfl) (b2 (i _) (b2 rfl rfl rfl) ?_) (Dk _ _ _ true));rw[<-e1];exact acL hr _
  cases hS:lD m q.1 f.x with
  | false =>
   rw[hS]at a;rw[if_neg bX];exact gV (sq (iF c rfl) (o9 (iT a (rS rfl)))) rfl
  | true =>
   rw[hS]at a;rw[if_pos rfl];obtain⟨I,M⟩:=AJ h v;have cl:=lB k hk h.ks (Ot h) v;rw[<-I]at cl;refine gV (sq (iF c rfl) (sq (iF a rfl) (rS (eB (cA (cb (cA (o _) (cA (b2 rfl rfl rfl) rfl)) rfl rfl cl) rfl) (eB (s1:=S0 [some C,some (eN q),some (eG f)]) ?_ rfl))))) (vo _);show Option.map _ (if 0<=(Ti m q.2.k:Int)/\(Ti m q.2.k:Int)<=1000 then some (PyProof.Rows.rangeInts 0 1 (Ti m q.2.k:Int).toNat)else none)=_
   rw[if_pos ⟨by lia,by lia⟩,fu]
   rfl
def xZ(h:cB m most){q:Nat×bW}(c:q∈m.as)(a:q.2.k≠"")(f:Ft):(given m q f).length<=3:=by
 unfold given;split
 ·split<;>simp
 ·rename_i d;split
  ·rcases(Dt h c).tk a with e | ⟨_,_,b,s,j,i,_,g,_⟩
   ·exact absurd e d
   ·rw[aD,dY];exact(AJ h g).2
  ·simp
def OA(k:Nat)(hk:6<=k)(h:cB m most){q:Nat×bW}(d:q∈m.as){f:Ft}(j:f.g<(m.as.length:Int)):Gives (run txt (k+3) "passed_on" [qY m,eN q,eG f] []) (.lst ((kc m q f).map ig)):=by
 rw[mE];have e:=qu (k+1) j q.2.k;have o:=qt h;obtain⟨C,i⟩:=nw (qY m);have p:q.2.k≠""->Gives (run txt (k+2) "leaves_given" [C,eN q,eG f] []) (.lst ((given m q f).map .int)):=λb=>by rw[i];exact Tj k hk h d b f
 rw[<-i]at e o ⊢;have c:Ek (dk QH (aV true) (eH (bnd (aj (rd 0) (aj (op2 bf (rd 2) (kI 3)) (aj (op2 bf (rd 1) (kI 6)) (aV [])))) (bD 0 3 (run txt (k+2) "is_through"))))) (S0 [some C,some (eN q),some (eG f)]) (q.2.k==Str.ofString "" || xY m f.g q.2.k):=oB (bT (b2 (b2 rfl rfl rfl) rfl (dz _ _ _))) (tR (cb (cA rfl (cA (b2 rfl rfl rfl) (cA (b2 rfl rfl rfl) rfl))) rfl rfl e) rfl);unfold kc;cases hc:(q.2.k==Str.ofString "" || xY m f.g q.2.k)with
 | true =>
  rw[hc]at c;rw[if_pos rfl];exact gV (o9 (iT c (rS rfl))) rfl
 | false =>
  rw[hc]at c;rw[if_neg bX];have b:q.2.k≠"":=λz=>by
   have:=(Bool.or_eq_false_iff.mp hc).1;rw[z]at this;exact absurd this (by decide +kernel)
  have r:=xZ h d b f;rw[bY];refine gV (sq (iF c rfl) (rS (cM (sV (cb (cA rfl (cA rfl (cA rfl rfl))) rfl rfl (p b)) rfl) (dn ‹_›) λl _=>?_))) ?_
  ·exact e1 rfl (b2 (y:=.aq [.int f.g,.int f.s]) (tU (cA (b2 rfl rfl rfl) (cA rfl rfl)) (by simp)) (cE rfl rfl rfl rfl) (aT (by simp)))
  ·have:∀l:List Int,ah (l.map (ig ∘ λl=>(⟨q.2.k,l,f.g,f.s⟩:S4)))=true:=λl=>by
    induction l with
    | nil=>rfl
    | cons a l ih=>rw[aH];simp only[ah,ih,tJ];rfl
   simp only[noRef,this]
def Gq(h:cB m most){q:Nat×bW}(a:q∈m.as)(f:Ft):(kc m q f).length<=3:=by
 unfold kc;split
 ·simp
 ·rename_i hc;rw[aD];exact xZ h a (by grind) f
def nq(h:cB m most){q:Nat×bW}(a:q∈m.as)(f:Ft):(iG m q f).length<=4:=by
 unfold iG;rw[bK];have b:(if(!(f.x==q.2.k)&&!xY m f.g q.2.k)=true then [(⟨f.x,f.l,f.g,f.s⟩:S4)]else []).length<=1:=by split<;>simp
 have:=Gq h a f
 lia
theorem q8(k:Nat)(h:cB m most){q:Nat×bW}{f:Ft}(T:List S4)(v:T.length<=4):∀(l:List Nat) (acc:List Ft) (c a:Option PV),(∀n∈l,n<m.as.length)->acc.length+4*l.length<=1000 ->
  ∃d i,dX (aX 5) (rN (run txt (k+1))) (l.map iN) ⟨[some (qY m),some (eG f),some (eN q),some (.ref 0),some (.ref 1),c,a],[⟨.lst,T.map ig⟩,⟨.lst,acc.map eG⟩]⟩=some (.ok .nx,⟨[some (qY m),some (eG f),some (eN q),some (.ref 0),some (.ref 1),d,i],[⟨.lst,T.map ig⟩,⟨.lst,(acc++l.flatMap λn=>(T.filter λo=>oX m n q || !Txt.isdigit o.x).map (Ft.of n)).map eG⟩]⟩)
 | [],acc,c,a,_,_=>⟨c,a,by simp;rfl⟩
 | n::l,acc,c,a,j,w=>by
  rw[aR]at w;have y:(T.filter λo=>oX m n q || !Txt.isdigit o.x).length<=4:=by grind
  have B:∀b:Bool,(T.filter λo=>b || !Txt.isdigit o.x).length<=4:=by grind
  obtain⟨d,i,e⟩:=q8 k h T v l (acc++(T.filter λo=>oX m n q || !Txt.isdigit o.x).map (Ft.of n)) (some (iN n)) (some (.bl (oX m n q))) (λp hp=>j p (aM _ hp)) (by grind)
  refine⟨d,i,?_⟩;rw[jg,<-cC];obtain⟨p,hp⟩:∃p,m.as[n]?=some p:=⟨_,b7 (j n aO)⟩
  have r:oX m n q=((p.1:Int)==(q.1:Int)):=by unfold oX;rw[hp]
  have t:∀a H,Ek Q5 ⟨[some (qY m),some (eG f),some (eN q),some (.ref 0),some (.ref 1),some (iN n),a],H⟩ (.lst (m.as.map eN)):=λ_ _=>rfl
  obtain⟨C,D⟩:=nw (qY m);rw[<-D]at t e ⊢;obtain⟨b,E⟩:=nw (oX m n q);rw[<-E]at e r ⊢;refine fC rfl (sq (s1:=⟨[some C,some (eG f),some (eN q),some (.ref 0),some (.ref 1),some (iN n),some (.bl b)],[⟨.lst,T.map ig⟩,⟨.lst,acc.map eG⟩]⟩) (aS (b2 (b2 (b2 (t _ _) rfl (qZ hp _)) rfl rfl) (b2 rfl rfl rfl) (by rw[r];exact lu _ _ _)) rfl) (dS (p:=.cf) (sx (s2:=⟨[some C,some (eG f),some (eN q),some (.ref 0),some (.ref 1),some (iN n),some (.bl b)],[⟨.lst,T.map ig⟩,⟨.lst,acc.map eG⟩]⟩) rfl rfl (cA (x:=.lst (((T.filter λo=>b || !Txt.isdigit o.x).map (Ft.of n)).map eG)) ?_ rfl) ?_))) e
  ·rw[bY];refine agy (eB rfl rfl) rfl (by lia) λo _=>?_
   ·have g:Ek (dk (eH (rd 3)) (aV true) (nY (eH (bnd (aj Q4 (aV [])) (bD 0 1 (run txt (k+1) "is_of_call")))))) ⟨[none,some (ig o),some (iN n),some (.bl b)],[⟨.lst,T.map ig⟩,⟨.lst,acc.map eG⟩]⟩ (b || !Txt.isdigit o.x):=oB (tR rfl rfl) (nB (tR (cb (cA (b2 rfl rfl rfl) rfl) rfl rfl (AF k o.x)) rfl));cases u:(b || !Txt.isdigit o.x)with
    | true=>rw[u]at g;exact OZ rfl g (b2 rfl rfl (aT (by simp)))
    | false=>rw[u]at g;exact KI rfl g
  ·rw[bU];exact xC rfl rfl (by grind)
def OB(k:Nat)(hk:6<=k)(h:cB m most)(I:most<=20){f:Ft}{q:Nat×bW}{l:List Nat}(u:m.as[f.n]?=some q)(v:m.vH[f.n]?=some l)(w:f.g<(m.as.length:Int)):Gives (run txt (k+4) "held_behind" [qY m,eG f] []) (.lst ((l.flatMap (wL m q f)).map eG)):=by
 rw[km];have i:=cK u;have y:=qu (k+2) w q.2.k;have ps:=OA k hk h i w;have j:=qt h;have J:=qw h I v;obtain⟨b,c,e⟩:=q8 (k+2) h (iG m q f) (nq h i f) l [] none none J.2 (by simp;lia)
 have B:∀(o p r b c:Option PV) H,Ek Q5 ⟨[some (qY m),some (eG f),o,p,r,b,c],H⟩ (.lst (m.as.map eN)):=λ_ _ _ _ _ _=>rfl
 have D:∀(o p r b c:Option PV) H,Ek QM ⟨[some (qY m),some (eG f),o,p,r,b,c],H⟩ (.lst (m.vH.map nT)):=λ_ _ _ _ _ _=>rfl
 obtain⟨C,L⟩:=nw (qY m);rw[<-L]at y ps j e B D ⊢;have M:Ev QV (S0 [some C,some (eG f),none,none,none,none,none]) .nx (S0 [some C,some (eG f),some (eN q),none,none,none,none]):=aS (b2 (B _ _ _ _ _ _) (b2 rfl rfl rfl) (qZ u _)) rfl;have d:Ek (dk (toB (op2 KA Q7 QK)) (nY (eH (bnd Qm (bD 0 3 (run txt (k+3) "is_through"))))) (aV false)) ⟨[some C,some (eG f),some (eN q),some (.ref 0),none,none,none],[⟨.lst,[]⟩]⟩ (!(f.x==q.2.k)&&!xY m f.g q.2.k):=nD (bT (b2 (b2 rfl rfl rfl) (b2 rfl rfl rfl) (vv _ _ _))) (nB (tR (cb (cA rfl (cA (b2 rfl rfl rfl) (cA (b2 rfl rfl rfl) rfl))) rfl (by simp[ah,j,noRef]) y) rfl))
 obtain⟨t,a⟩:=nw ((if(!(f.x==q.2.k)&&!xY m f.g q.2.k)=true then [⟨f.x,f.l,f.g,f.s⟩]else []):List S4)
 have E:iG m q f=t++kc m q f:=by rw[a];rfl
 have R:t.length<=1:=by grind
 have N:=nq h i f;rw[E,bK]at N;have Q:Ev (gj (zD "list" wb (rd 3) (aj (bnd (aj (rd 0) QU) (bD 0 3 (run txt (k+3) "passed_on"))) (aV [])))) ⟨[some C,some (eG f),some (eN q),some (.ref 0),none,none,none],[⟨.lst,t.map ig⟩]⟩ .nx ⟨[some C,some (eG f),some (eN q),some (.ref 0),none,none,none],[⟨.lst,(iG m q f).map ig⟩]⟩:=by
  rw[E,bU];exact dS (sx rfl rfl (cA (cb (cA rfl (cA rfl (cA rfl rfl))) rfl (by simp[ah,j,noRef,eN,l9,eG]) ps) rfl) (xC rfl rfl (by grind)))
 refine⟨.ref 1,_,iJ (sq M (sq rfl (sq (by
  rw[a];cases hc:(!(f.x==q.2.k)&&!xY m f.g q.2.k)with
  | true =>
   rw[hc]at d;rw[if_pos rfl];exact iT d (dS (sx rfl rfl (cA (cE rfl rfl rfl rfl) rfl) (aC (ps:=[]) rfl (by simp))))
  | false =>
   rw[hc]at d;rw[if_neg bX];exact iF d rfl) (sq Q (sq rfl (sq (fS (sV (b2 (D _ _ _ _ _ _) (b2 rfl rfl rfl) (Ik v _)) rfl) e) (rS rfl))))))),?_⟩
 exact vf rfl (Ox _)
end
noncomputable def deF:List bO->Option Ft
 | [.inl n,.inr x,.inl l,.inl g,.inl s]=>if 0<=n then some ⟨n.toNat,x,l,g,s⟩else none
 | _=>none
def Il(f:Ft):deF (kF f)=some f:=by
 show(if 0<=(f.n:Int)then some (Ft.mk (f.n:Int).toNat f.x f.l f.g f.s)else none)=_
 rw[if_pos (by lia),fu]
def Dw(h:deF k=some f):k=kF f:=by
 rcases k with _ | ⟨n | _,_ | ⟨_ | x,_ | ⟨l | _,_ | ⟨g | _,_ | ⟨s | _,_ | _⟩⟩⟩⟩⟩<;>first | (cases h;done) | skip
 obtain⟨a,h⟩:=bP h;cases h;unfold kF;rw[show((Int.toNat _:Nat):Int)=_ from mM a]
def OC(h:kF a=kF b):a=b:=by
 have:=dO deF h;rw[Il,Il]at this;exact cL this
def Kq(m:Md)(f:Ft):Option (List Ft):=if f.g<(m.as.length:Int)then(m.as[f.n]?).bind λq=>(m.vH[f.n]?).map λl=>l.flatMap (wL m q f)else none
def Dx(m:Md)(k:List bO):Option (List (List bO)):=(deF k).bind λf=>(Kq m f).map λfs=>fs.map kF
section
variable {m:Md} {most:Nat}
def Xs(m:Md):List Str:=Str.ofString ""::(xV m.ks++Oy)
def YW:(Xs m).length=15:=by
 unfold Xs Oy xV;rw[aR,bK,aD,vG];rfl
structure AK (m:Md) (f:Ft):Prop where
 n:f.n<m.as.length
 x:f.x∈Xs m
 l:0<=f.l/\f.l<3
 g:-4<=f.g/\f.g<(m.as.length:Int)
 s:0<=f.s/\f.s<3
def Us(m:Md):List (List bO):=(List.range m.as.length).flatMap λn=>(Xs m).flatMap λx=>(List.range 3).flatMap fun(l:Nat)=>(List.range (m.as.length+4)).flatMap fun(g:Nat)=>(List.range 3).map fun(s:Nat)=>kF ⟨n,x,(l:Int),(g:Int)-4,(s:Int)⟩
theorem vP{f:α->List β}:∀l:List α,(∀a∈l,(f a).length=c)->(l.flatMap f).length=l.length*c
 | [],_=>by simp
 | a::l,h=>by
  rw[jg,bK,h a aO,vP l λb d=>h b (aM _ d),aR,Nat.add_mul]
  lia
def OD:(Us m).length=m.as.length*(15*(3*((m.as.length+4)*3))):=by
 have h:(Us m).length=(List.range m.as.length).length*(15*(3*((m.as.length+4)*3))):=by
  refine vP _ λn _=>?_
  have h:((Xs m).flatMap λx=>(List.range 3).flatMap fun(l:Nat)=>(List.range (m.as.length+4)).flatMap fun(g:Nat)=>(List.range 3).map fun(s:Nat)=>kF ⟨n,x,l,g-4,s⟩).length=(Xs m).length*(3*((m.as.length+4)*3)):=by
   refine vP _ λx _=>?_
   have h:((List.range 3).flatMap fun(l:Nat)=>(List.range (m.as.length+4)).flatMap fun(g:Nat)=>(List.range 3).map fun(s:Nat)=>kF ⟨n,x,l,g-4,s⟩).length=(List.range 3).length*((m.as.length+4)*3):=by
    refine vP _ λl _=>?_
    have h:((List.range (m.as.length+4)).flatMap fun(g:Nat)=>(List.range 3).map fun(s:Nat)=>kF ⟨n,x,(l:Int),(g:Int)-4,(s:Int)⟩).length=(List.range (m.as.length+4)).length*3:=vP _ λg _=>by rw[aD,dY]
    rw[h,dY]
   rw[h,dY]
  rw[h,YW]
 rw[h,dY]
def Gs(h:AK m f):kF f∈Us m:=by
 obtain⟨a,b,c,d,e⟩:=h;refine dy.mpr ⟨f.n,de.mpr a,dy.mpr ⟨f.x,b,dy.mpr ⟨f.l.toNat,de.mpr (by lia),dy.mpr ⟨(f.g+4).toNat,de.mpr (by lia),az.mpr ⟨f.s.toNat,de.mpr (by lia),?_⟩⟩⟩⟩⟩
 congr 1
 obtain⟨n,x,l,g,s⟩:=f;simp only at c d e ⊢
 congr 1<;>lia
def U3(h:k∈Us m):∃f,k=kF f/\AK m f:=by
 obtain⟨n,a,h⟩:=dy.mp h;obtain⟨x,b,h⟩:=dy.mp h;obtain⟨l,c,h⟩:=dy.mp h;obtain⟨g,d,h⟩:=dy.mp h;obtain⟨s,e,rfl⟩:=az.mp h;rw[de]at a c d e;exact⟨_,rfl,a,b,⟨by grind,by grind⟩,⟨by grind,by grind⟩,⟨by grind,by grind⟩⟩
def acN(h:cB m most)(b:q∈m.as):q.2.k∈Xs m:=by
 rcases(Dt h b).nm with a | a | a
 ·rw[a];exact aO
 ·exact aM _ (fI _ a)
 ·exact aM _ (dm _ a)
def Kr(h:cB m most)(c:q∈m.as)(d:AK m f)(ho:o∈iG m q f):o.x∈Xs m/\(0<=o.l/\o.l<3)/\o.g=f.g/\o.s=f.s:=by
 unfold iG at ho;rcases bB.mp ho with ho | ho
 ·split at ho
  ·rw[aG]at ho;subst ho;exact⟨d.x,d.l,rfl,rfl⟩
  ·cases ho
 ·unfold kc at ho;split at ho
  ·cases ho
  ·rename_i hc;obtain⟨l,a,rfl⟩:=az.mp ho;refine⟨acN h c,?_,rfl,rfl⟩;have ok:=Dr h c;have p:=ok.f0;have r:=ok.few;unfold given at a;split at a
   ·split at a
    ·rename_i ht;rw[aG]at a;subst a;have ht:=(gQ.mp ht).2;unfold O4 at ht;simp only[aY,jP]at ht;show 0<=f.l-q.2.f/\f.l-q.2.f<3
     lia
    ·cases a
   ·rename_i t;split at a
    ·obtain⟨i,e,rfl⟩:=az.mp a;have e:=de.mp e;rcases(Dt h c).tk (by grind)with u | ⟨_,_,b,s,j,v,_,k,_⟩
     ·grind
     ·have:=(AJ h k).2;show 0<=(0:Int)+i*1/\(0:Int)+i*1<3
      lia
    ·cases a
def YX(h:cB m most)(e:most<=20)(a:AK m f):∃q l,m.as[f.n]?=some q/\m.vH[f.n]?=some l/\Kq m f=some (l.flatMap (wL m q f))/\(∀i∈l.flatMap (wL m q f),AK m i)/\(l.flatMap (wL m q f)).length<=8:=by
 obtain⟨q,b⟩:∃q,m.as[f.n]?=some q:=⟨_,b7 a.n⟩
 obtain⟨l,c⟩:∃l,m.vH[f.n]?=some l:=⟨_,b7 (by rw[lT h e];exact a.n)⟩
 have j:=cK b;have k:=qw h e c;refine⟨q,l,b,c,?_,λi d=>?_,?_⟩
 ·unfold Kq;rw[if_pos a.g.2,b,c];rfl
 ·obtain⟨n,p,d⟩:=dy.mp d;obtain⟨o,ho,rfl⟩:=az.mp d;obtain⟨r,t,u,v⟩:=Kr h j a (gC.mp ho).1;exact⟨k.2 n p,r,t,by show -4<=o.g/\o.g<_;rw[u];exact a.g,by show 0<=o.s/\o.s<3;rw[v];exact a.s⟩
 ·have:∀l:List Nat,(l.flatMap (wL m q f)).length<=4*l.length:=λl=>by
   induction l with
   | nil=>simp
   | cons n l ih =>
    rw[jg,bK,aR];have:(wL m q f n).length<=4:=by
     unfold wL;rw[aD];exact bC (List.length_filter_le _ _) (nq h j f)
    lia
  have:=this l
  lia
theorem Im(h:cB m most)(hN:0<m.as.length):∀(l:List Rk) (i:Nat),(∀q∈l,q∈m.ks)->i+l.length<=3->∀f∈gy i l,AK m f
 | [],_,_,_,f,hf=>nomatch hf
 | q::l,i,a,d,f,hf=>by
  rw[aR]at d;rw[gy,bB]at hf;rcases hf with hf | hf
  ·have b:=a q aO;unfold wK at hf;split at hf
   ·obtain⟨j,c,rfl⟩:=az.mp hf;have c:=de.mp c;have e:=(h.ks.good q b).2;exact⟨hN,aM _ (fI _ (az.mpr ⟨q,b,rfl⟩)),⟨by grind,by grind⟩,⟨by grind,by grind⟩,⟨by grind,by grind⟩⟩
   ·cases hf
  ·exact Im h hN l (i+1) (λr hr=>a r (aM _ hr)) (by lia) f hf
def YY(h:cB m most)(g:most<=20)(c:m.as[n]?=some q)(i:m.vH[n]?=some l):∀f∈jo m n q.2 l,AK m f:=λf a=>by
 unfold jo at a;split at a
 ·obtain⟨b,k,a⟩:=dy.mp a;obtain⟨j,d,rfl⟩:=az.mp a;have d:=de.mp d;have e:=cK c;have ok:=Dr h e;have o:=ok.f0;have p:=ok.m0;have r:=ok.few;have t:=(cS.mp c).1;exact⟨(qw h g i).2 b k,acN h e,⟨by show 0<=(j:Int);lia,by show(j:Int)<3;lia⟩,⟨by show(-4:Int)<=n;lia,by show n<(m.as.length:Int);lia⟩,⟨by show 0<=q.2.f+j*1;lia,by show q.2.f+j*1<3;lia⟩⟩
 ·cases a
def kq(m:Md)(cs:List Nat):List Ft:=cs.flatMap λn=>match m.as[n]?,m.vH[n]? with
 | some q,some l=>jo m n q.2 l
 | _,_=>[]
def To(m:Md)(cs:List Nat):List Ft:=gy 0 m.P++kq m cs
def Dy(h:cB m most)(a:most<=20)(c:m.as[n]?=some q)(d:m.vH[n]?=some l):(jo m n q.2 l).length<=6:=by
 unfold jo;split
 ·have ok:=Dr h (cK c);have:∀l:List Nat,(l.flatMap (AI n q.2)).length<=3*l.length:=λl=>by
   induction l with
   | nil=>simp
   | cons b l ih =>
    rw[jg,bK,aR];have:=Du ok n b
    lia
  have:=this l;have:=(qw h a d).1
  lia
 ·simp
theorem ya(k:Nat)(h:cB m most)(b:most<=20)(d f:Option PV):∀(cs:List Nat) (acc:List Ft) (c:Option PV),(∀n∈cs,n<m.as.length)->acc.length+6*cs.length<=3000 ->
  ∃a,dX (aX 3) (oJ (run txt (k+2))) (cs.map iN) ⟨[d,f,some (.ref 0),c,some (qY m)],[⟨.lst,acc.map eG⟩]⟩=some (.ok .nx,⟨[d,f,some (.ref 0),a,some (qY m)],[⟨.lst,(acc++kq m cs).map eG⟩]⟩)
 | [],acc,c,_,_=>⟨c,by simp[kq];rfl⟩
 | n::cs,acc,c,hc,t=>by
  rw[aR]at t;have j:=hc n aO;obtain⟨q,g⟩:∃q,m.as[n]?=some q:=⟨_,b7 j⟩
  obtain⟨l,i⟩:∃l,m.vH[n]?=some l:=⟨_,b7 (by rw[lT h b];exact j)⟩
  have e:kq m (n::cs)=jo m n q.2 l++kq m cs:=by
   unfold kq;rw[jg,g,i]
  have v:=Dy h b g i;obtain⟨a,ih⟩:=ya k h b d f cs (acc++jo m n q.2 l) (some (iN n)) (λp hp=>hc p (aM _ hp)) (by grind)
  refine⟨a,?_⟩;rw[e,<-cC];have o:=Th k h b g i;have r:=qt h;obtain⟨C,u⟩:=nw (qY m);rw[<-u]at o r ih ⊢;refine fC rfl (dS (p:=.cf) (sx rfl rfl (cA (cb (as:=[C,.int (n:Int)]) (cA rfl (cA rfl rfl)) rfl (by simp[ah,r,noRef]) o) rfl) ?_)) ih
  rw[bU];exact xC rfl rfl (by grind)
theorem Io(k:Nat){P I F C:PV}{fs:List Ft}{cs:List Nat}{fk:List Ft}{out:List bO->Option (List (List bO))}{af:eJ}{b:Option PV}(o:noRef P=true)(q:noRef I=true)(t:noRef C=true)(u:∀H,bf H P I=some F) (v:Ek (Xh "Course" 3 (Nt txt (run txt (k+3)) "Course") Qj) (S0 [some P,some I,none,none,none]) C) (w:run txt (k+3) "held_at_first" [F] []=some (.ok (.ref 0),[⟨.lst,fs.map eG⟩])) (hc:Gives (run txt (k+3) "come_to" [P,I] []) (.lst (cs.map iN))) (e:dX (aX 3) (oJ (run txt (k+3))) (cs.map iN) ⟨[some P,some I,some (.ref 0),none,some C],[⟨.lst,fs.map eG⟩]⟩=some (.ok .nx,⟨[some P,some I,some (.ref 0),b,some C],[⟨.lst,fk.map eG⟩]⟩)) (D:fk.length<=3000) (x:gM out uQ 0 (dw [] (-1) (fk.map kF))=some af) (i:∀g a,out g=some a->(∀f∈a,f.length<1000)/\Gives (run txt (k+3) "held_behind" [C,cP g] []) (.lst (a.map cP))):Gives (run txt (k+4) "held" [P,I] []) (.lst (af.map toldP)):=by
 rw[NH];have c:∀l:List Ft,l.map eG=(l.map kF).map cP:=λl=>by rw[bY];rfl
 have y:Ev (dh (bnd (aj Qn (aV [])) (bD 1 1 (run txt (k+3) "held_at_first"))) (aX 2)) (S0 [some P,some I,none,none,some C]) .nx ⟨[some P,some I,some (.ref 0),none,some C],[⟨.lst,fs.map eG⟩]⟩:=aS (clG (cA (b2 rfl rfl (u _)) rfl) rfl rfl w) rfl;have B:Ek (gP (bnd Qj (bD 0 2 (run txt (k+3) "come_to")))) ⟨[some P,some I,some (.ref 0),none,some C],[⟨.lst,fs.map eG⟩]⟩ (.sq (cs.map iN)):=sV (cb (cA rfl (cA rfl rfl)) rfl (by simp[ah,o,q]) hc) rfl
 have r:=NU (fe:=rd 2) (fb:=bnd (aj (rd 1) Qu) (bD 0 2 (run txt (k+3) "held_behind"))) (link:=[some 4]) (s:=⟨[some P,some I,some (.ref 0),b,some C],[⟨.lst,fk.map eG⟩]⟩) (s1:=⟨[some P,some I,some (.ref 0),b,some C],[⟨.lst,fk.map eG⟩]⟩) (p:=.ref 0) (fk:=fk.map kF) (res:=af) rfl (.inr ⟨0,rfl,by show some _=some _;rw[c]⟩) (HM (k+2)) (NW (k+3)) (λf c=>by
  obtain⟨E,_,rfl⟩:=az.mp c;show 5<1000;decide) (by
  rw[aD]
  lia) x (λg a j=>⟨(i g a j).1,λd=>⟨some (cP g)::[some C],cb (as:=[C,cP g]) (cA rfl (cA rfl rfl)) rfl (by simp[ah,t,SA]) (i g a j).2⟩⟩)
 exact⟨.ref 2,_,iJ (sq (aS v rfl) (sq y (sq (fS B e) (rS r)))),vf (n:=2) (X6 (hd:=[⟨.lst,fk.map eG⟩,ox])) (As af)⟩
structure acO (m:Md) (cs:List Nat) (af:eJ):Prop where
 ok:∀t∈af,∃f,t.1=kF f/\AK m f
 nd:(af.map (·.1)).Nodup
 why:UE (Dx m) ((To m cs).map kF) af
 done:FE (Dx m) af af.length
 fst:∀f∈To m cs,kF f∈af.map (·.1)
def YZ(k:Nat)(hk:14<=k)(h:cB m most)(b:most<=20)(hc:Gives (run txt (k+3) "come_to" [m.prog,.int 1] []) (.lst (cs.map iN)))(j:YO m cs):∃af,Gives (run txt (k+4) "held" [m.prog,.int 1] []) (.lst (af.map toldP))/\acO m cs af:=by
 have hN:=(iQ h b 12 (au _)).2.pos;have H:=AE h;have w:m.as.length<=126:=by lia
 have I:cs.length<=m.as.length:=by
  have:=gJ cs (List.range m.as.length) j.nd λn d=>de.mpr (j.lt n d)
  rwa [dY]at this
 have hU:(Us m).length<=2300000:=by
  rw[OD];have J:(m.as.length+4)*3<=390:=by lia
  have C:15*(3*((m.as.length+4)*3))<=17550:=by lia
  exact bC (Nat.mul_le_mul w C) (by decide)
 have x:∀f∈To m cs,AK m f:=λf a=>by
  rcases bB.mp a with a | a
  ·exact Im h hN m.P 0 Tf (by rw[Dn];decide) f a
  ·obtain⟨n,d,a⟩:=dy.mp a;have D:=j.lt n d;obtain⟨q,o⟩:∃q,m.as[n]?=some q:=⟨_,b7 D⟩
   obtain⟨l,c⟩:∃l,m.vH[n]?=some l:=⟨_,b7 (by rw[lT h b];exact D)⟩
   rw[o,c]at a;exact YY h b o c f a
 obtain⟨af,L,M,N,Q,R,T⟩:=ng (Dx m) ((To m cs).map kF) (Us m) 8 (by show _<4000000;lia) (by show _<3000000;lia) (λg u=>by
  obtain⟨f,rfl,a⟩:=U3 u;obtain⟨q,l,J,C,X,Y,Z⟩:=YX h b a;refine⟨(l.flatMap (wL m q f)).map kF,?_,λk' y=>?_,by rw[aD];exact Z⟩
  ·unfold Dx;rw[Il,dM,X];rfl
  ·obtain⟨E,B,rfl⟩:=az.mp y;exact Gs (Y E B)) (λk' y=>by
  obtain⟨f,a,rfl⟩:=az.mp y;exact Gs (x f a))
 refine⟨af,?_,⟨λt ht=>?_,M,Q,R,λf a=>T _ (az.mpr ⟨f,a,rfl⟩)⟩⟩
 ·have c1:=AH (k+2) (by lia) h
  have a:∀l:List Ft,l.map eG=(l.map kF).map cP:=λl=>by rw[bY];rfl
  have ny:(gy 0 m.P).length<=6:=by
   have:∀l i,(∀q∈l,q∈m.ks)->(gy i l).length<=3*l.length:=λl=>by
    induction l with
    | nil=>exact λ_ _=>by simp[gy]
    | cons q l ih =>
     intro i c;rw[gy,bK,aR];have:=vK h.ks (i:=i) (c q aO);have:=ih (i+1) λr hr=>c r (aM _ hr)
     lia
   have:=this m.P 0 Tf;rw[Dn]at this;exact this
  obtain⟨x3,e⟩:=ya (k+1) h b (some m.prog) (some (.int 1)) cs (gy 0 m.P) none j.lt (by lia)
  have lm:∀g (fs:List (List bO)),Dx m g=some fs->(∀f∈fs,f.length<1000)/\Gives (run txt (k+3) "held_behind" [qY m,cP g] []) (.lst (fs.map cP)):=λg fs u=>by
   unfold Dx at u;obtain⟨f,d1,d2⟩:=bt u;obtain⟨yI,v,rfl⟩:=bE d2;have eg:=Dw d1;subst eg;unfold Kq at v;obtain⟨d4,v⟩:=bP v;obtain⟨q,d5,d6⟩:=bt v;obtain⟨l,d7,rfl⟩:=bE d6;have:=OB (k-1) (by lia) h b d5 d7 d4
   rw[a]at this;rw[show k+3=k-1+4 by lia]
   exact⟨λE B=>by obtain⟨f'',_,rfl⟩:=az.mp B;show 5<1000;decide,this⟩
  exact Io k (j9 h) rfl (qt h) vI (Ow (k+3) (fj ‹_›) h b _ rfl (cA rfl (cA rfl rfl))) c1 hc e (by
   rw[bK];have:(kq m cs).length<=6*cs.length:=by
    have:∀cs:List Nat,(∀n∈cs,n<m.as.length)->(kq m cs).length<=6*cs.length:=λcs=>by
     induction cs with
     | nil=>exact λ_=>by simp[kq]
     | cons n cs ih =>
      intro hc;have d:=hc n aO;obtain⟨q,o⟩:∃q,m.as[n]?=some q:=⟨_,b7 d⟩
      obtain⟨l,c⟩:∃l,m.vH[n]?=some l:=⟨_,b7 (by rw[lT h b];exact d)⟩
      have e:kq m (n::cs)=jo m n q.2 l++kq m cs:=by
       unfold kq;rw[jg,o,c]
      rw[e,bK,aR];have:=Dy h b o c;have:=ih λp hp=>hc p (aM _ hp)
      lia
    exact this cs j.lt
   lia) L lm
 ·obtain⟨f,e,ok⟩:=U3 (N t ht);exact⟨f,e,ok⟩
end
theorem Dz:∀(kvs acc:List (bO×PV)),((acc++kvs).map (·.1)).Nodup->xq kvs ⟨.gU false (acc.map λq=>[q.1]),acc.map (·.2)⟩=⟨.gU false ((acc++kvs).map λq=>[q.1]),(acc++kvs).map (·.2)⟩
 | [],acc,_=>by rw[dc];rfl
 | (k,p)::kvs,acc,h=>by
  have a:kY [k] (acc.map λq=>[q.1])=false:=by
   unfold kY;rw[List.any_eq_false];intro x b;obtain⟨q,c,rfl⟩:=az.mp b;rw[bU,tq]at h;simp only[jP];intro e;injection e with e _
   exact h.2.2 q.1 (az.mpr ⟨q,c,rfl⟩) k (by simp) e
  have ih:=Dz kvs (acc++[(k,p)]) (by grind)
  show xq kvs (oo false [k] p (acc.map λq=>[q.1]) (acc.map (·.2)))=_
  unfold oo;rw[a,if_neg bX];rw[cC,bU,bU]at ih;exact ih
def Tp{ks:List Rk}(b:(ks.map (·.1)).Nodup)(a:ks.length<=1000):JC (ks.map bj)=some ⟨.gU false (ks.map λq=>[.inr q.1]),ks.map λq=>encK q.2⟩:=by
 have e:∀ks:List Rk,c9 Hw (ks.map bj)=some (ks.map λq=>((.inr q.1:bO),encK q.2)):=λks=>by
  induction ks with
  | nil=>rfl
  | cons q ks ih=>rw[aH,c9,ih];rfl
 unfold JC;rw[aD,if_pos a,e,iw];have:=Dz (ks.map λq=>((.inr q.1:bO),encK q.2)) [] (by
  grind)
 rw[f9,bY,bY]at this;exact dO some this
theorem DA(x:Str):∀ks:List Rk,g8 [.inr x] (ks.map λq=>[.inr q.1]) (ks.map λq=>encK q.2)=(mF ks x).map encK
 | []=>rfl
 | q::ks=>by
  rw[aH,aH,g8,mF];by_cases e:q.1=x
  ·grind
  ·rw[if_neg (by grind),if_neg e]
   exact DA x ks
section
variable {m:Md} {most:Nat}
def Kt(h:cB m most)(f:(x,d)∈m.ks)(g:Ev fa s (.aq (m.P.map bj)) s)(i:Ev fb s (.aq (m.LT.map bj)) s)(hr:∀H,Ek fx ⟨s.ρ,s.h++H⟩ (.str x)):∃H,Ev (op2 bf (B8 fa fb) fx) s (encK d) ⟨s.ρ,s.h++H⟩:=by
 have e1:JC (m.P.map bj++m.LT.map bj)=some ⟨.gU false (m.ks.map λq=>[.inr q.1]),m.ks.map λq=>encK q.2⟩:=by
  rw[<-bU];exact Tp De (by have:=@vG m;unfold Md.ks at this;lia)
 have hp:(m.P.map bj).isEmpty=false:=by
  have:=@Dn m;cases e:m.P with
  | nil=>rw[e]at this;cases this
  | cons a b=>rfl
 refine⟨[⟨.gU false (m.ks.map λq=>[.inr q.1]),m.ks.map λq=>encK q.2⟩],b2 (x:=.ref s.h.length) (eB g (eB i ?_)) (hr _) ?_⟩
 ·show(if((m.P.map bj).isEmpty || (m.LT.map bj).isEmpty)=true then none else(JC (m.P.map bj++m.LT.map bj)).bind λc=>mZ c s)=_
  rw[hp,if_neg (by show ¬((false || false)=true);decide),e1]
  rfl
 ·have j:cO (s.h++[⟨.gU false (m.ks.map λq=>[.inr q.1]),m.ks.map λq=>encK q.2⟩]) (.ref s.h.length)=some (.gU false (m.ks.map λq=>[.inr q.1]),m.ks.map λq=>encK q.2):=by
   show((s.h++[_])[s.h.length]?).bind _=_;rw[sO (au _),Nat.sub_self];rfl
  show(match cO (s.h++[⟨.gU false (m.ks.map λq=>[.inr q.1]),m.ks.map λq=>encK q.2⟩]) (.ref s.h.length)with
   | some (.aq,ps)=>(oh (.str x)).bind (L2.mX ps)
   | some (.lst,ps)=>(oh (.str x)).bind (L2.mX ps)
   | some (.gU t ks,ps)=>(iW t (.str x)).bind λk=>g8 k ks ps
   | _=>none)=_
  rw[j];show g8 [.inr x] _ _=_;rw[DA,lN m.ks (x,d) De f];rfl
def Gu(k:Nat)(h:cB m most)(a:j<3)(e:m.hr j=true):Gives (run txt (k+1) "_law_sources" [m.prog,cz m.fn (.call tk j t)] []) (stI (wJ (m.ps j) (m.so j))):=by
 rw[Al];obtain⟨R,l⟩:=nw (cz m.fn (.call tk j t));have u:∀H,bf H R (.int 2)=some (m.fn j):=λH=>by rw[l];rfl
 rw[<-l];have b:=qX m a u none;obtain⟨P,v⟩:=nw m.prog;rw[<-v]at b ⊢;obtain⟨f,w⟩:=nw (m.F j);have c:=F_1 m a;have o:=F_2 m a e;rw[<-w]at b c o;have d:=U0 a e;refine gV (sq (aS b rfl) (rS (s1:=S0 [some P,some R,some f]) ?_)) (Gp _);have x:∀H,gA H [.aq ((m.ps j).map bj)]=some (iN (m.ps j).length):=λH=>by
  show some (PV.int (((m.ps j).map bj).length:Nat))=_;rw[aD];rfl
 refine S3 (kn (cA (bV (cA (b2 rfl rfl (c _)) rfl) (x _)) rfl) (by have:=vJ m j;lia)) (by rw[dY];have:=vJ m j;lia) λi B=>?_
 have OX:=de.mp B;have C:=vJ m j;have D:lO i=iN i:=by unfold lO iN;rw[kK]
 rw[D];obtain⟨q,p⟩:=nw ((m.ps j).getD i ("",.ow .num));have jD:(m.ps j)[i]?=some q:=by rw[p,K1,b7 OX];rfl
 rw[<-p];have E:∀H,bf H (.aq ((m.ps j).map bj)) (iN i)=some (bj q):=λH=>atI_nat (by rw[cw,jD];rfl)
 have g:Ek (toB (op2 (ku false) (op2 bf (op2 bf Qv (rd 1)) (kI 0)) (op2 bf Qd (kI 2)))) (S0 [none,some (iN i),some f]) ((m.so j).any λy=>y==q.1):=bT (b2 (b2 (b2 (b2 rfl rfl (c _)) rfl (E _)) rfl rfl) (b2 (b2 rfl rfl (o _)) rfl (acJ m d _)) (AG _ _ _ _))
 cases r:((m.so j).any λy=>y==q.1)with
 | true=>rw[r]at g;exact OZ rfl g (bV (cA rfl rfl) (NR _ i (by lia)))
 | false=>rw[r]at g;exact KI rfl g
def vV(f:Ft)(c:Int):PV:=.aq [.int (f.n:Int),.str f.x,.int f.l,.int f.g,.int f.s,.int c]
def OF(k:Nat)(i:Int):Gives (run txt (k+1) "_law_whole" [.int i] []) (.bl true):=by
 rw[FP];exact gV (rS rfl) rfl
theorem DB:∀(l:List Rk) (i:Nat) (f:Ft),f∈gy i l->∃j q t,l[j]?=some q/\iS q.2=true/\t<(lv (held q.2)).length/\f=⟨0,q.1,(t:Int),-1-((i+j:Nat):Int),(t:Int)⟩
 | [],_,_,h=>nomatch h
 | q::l,i,f,h=>by
  rw[gy,bB]at h;rcases h with h | h
  ·unfold wK at h;split at h
   ·rename_i a;obtain⟨t,ht,rfl⟩:=az.mp h;exact⟨0,q,t,rfl,a,de.mp ht,rfl⟩
   ·cases h
  ·obtain⟨j,b,t,e,c,d,g⟩:=DB l (i+1) f h;exact⟨j+1,b,t,by grind,c,d,by grind⟩
end
section
variable {af:eJ} {H:List aE}
theorem tB{fa:Gx PV}{s s1:dB}{b:Bool}(h:Ev fa s (.bl b) s1):Ev (eH fa) s b s1:=tR h rfl
theorem Y0(l:Nat):lO l=iN l:=by unfold lO iN;rw[kK]
def oY(af:eJ):aE:=⟨.gU true (af.map (·.1)),af.map λ_=>.bl true⟩
theorem OG{j:Nat}{ks:List bO}(a:ks.length<1000)(b:H[j]?=some (oY af))(c:ks∈af.map (·.1)):ku true H (cP ks) (.ref j)=some (.bl false):=by
 have d:cO H (.ref j)=some (.gU true (af.map (·.1)),af.map λ_=>.bl true):=by
  show(H[j]?).bind _=_;rw[b];rfl
 unfold ku;rw[d];show(iW true (cP ks)).map _=_;rw[sy a];show some (PV.bl (!Cq (af.map (·.1)) ks))=_;rw[oG.mpr c];rfl
theorem Gv(k:Nat)(f:Ft)(c:Int):Gives (run txt (k+2) "_law_is_fact" [vV f c] []) (.bl true):=by
 rw[Am];have a:Ek (cY false [none,none] (gP (op2 eQ (cutE (rd 0) (aV none) (oi (kI 1))) (cutE (rd 0) (oi (kI 2)) (aV none)))) (lY (aX 1) (nY (eH (bnd Q0 (bD 0 1 (run txt (k+1) "_law_whole"))))) (rd 1))) (S0 [some (vV f c)]) (.lst (([(f.n:Int),f.l,f.g,f.s,c].map PV.int).filterMap λ_=>none)):=cQ (sV (b2 rfl rfl rfl) rfl) (by simp) λp hp=>by
  obtain⟨i,_,rfl⟩:=az.mp hp;exact KI rfl (nB (tB (cb (cA rfl rfl) rfl rfl (OF k i))))
 exact gV (sq (iF rfl rfl) (rS (b2 a rfl rfl))) rfl
theorem yb(c:CT)(b i j l m o p q r:Option PV):∀(ts acc:eJ) (a:Option PV),((acc++ts).map (·.1)).Nodup->(∀t∈ts,∃f,t.1=kF f)->(acc++ts).length<4000000 ->
  ∃v,dX (aX 5) (u6 c) (ts.map toldP) ⟨[b,i,j,l,m,a,some (.ref 0),o,p,q,r],[oY acc]⟩=some (.ok .nx,⟨[b,i,j,l,m,v,some (.ref 0),o,p,q,r],[oY (acc++ts)]⟩)
 | [],acc,a,_,_,_=>⟨a,by rw[dc];rfl⟩
 | t::ts,acc,a,x,hk,B=>by
  obtain⟨v,ih⟩:=yb c b i j l m o p q r ts (acc++[t]) (some (toldP t)) (by grind) (λu C=>hk u (aM _ C)) (by grind)
  refine⟨v,?_⟩;rw[cC]at ih;obtain⟨f,w⟩:=hk t aO;obtain⟨g,d⟩:=t;have w:=w;subst w;refine fC rfl ?_ ih;unfold u6;refine eB rfl (eB rfl (eB rfl ?_));show(BS (.ref 0) (cP (kF f)) (.bl true) _).map _=_;have e:∀y,BS (.ref 0) (cP (kF f)) (.bl true) ⟨y,[oY acc]⟩=(iW true (cP (kF f))).bind λk=>if(acc.map (·.1)).length<gF then some ⟨y,[oY acc].set 0 (oo true k (.bl true) (acc.map (·.1)) (acc.map λ_=>.bl true))⟩else none:=λ_=>rfl
  rw[e,sy (ks:=kF f) (show 5<1000 by decide)]
  rw[dM];rw[bK,aR]at B;rw[if_pos (show(acc.map (·.1)).length<gF by rw[aD];have:gF=4000000:=rfl;lia)]
  unfold oo;have D:kY (kF f) (acc.map (·.1))=false:=by
   have:Cq (acc.map (·.1)) (kF f)=false:=by
    rw[<-Bool.not_eq_true,oG];intro z;rw[bU,tq]at x;exact x.2.2 _ z (kF f) (az.mpr ⟨(kF f,d),aO,rfl⟩) rfl
   exact this
  rw[D,if_neg bX];unfold oY;rw[bU,bU];rfl
theorem OH(c:CT)(f:H[0]?=some (oY af))(L:Option PV)(q:Rk)(i:Nat):∀(a:List Nat) (b:Option PV),(∀l∈a,kF ⟨0,q.1,(l:Int),-1-(i:Int),(l:Int)⟩∈af.map (·.1)) ->
  ∃d,dX (aX 4) (FQ c) (a.map lO) ⟨[L,some (.ref 0),some (iN i),some (bj q),b],H⟩=some (.ok .nx,⟨[L,some (.ref 0),some (iN i),some (bj q),d],H⟩)
 | [],b,_=>⟨b,rfl⟩
 | l::a,b,g=>by
  obtain⟨d,e⟩:=OH c f L q i a (some (iN l)) λj k=>g j (aM _ k)
  refine⟨d,?_⟩;rw[aH,Y0];exact fC rfl (iF (bT (b2 (x:=cP (kF ⟨0,q.1,(l:Int),-1-(i:Int),(l:Int)⟩)) (tU (ps:=[.int 0,.str q.1,iN l,.int (-1-(i:Int)),iN l]) (cA rfl (cA (b2 rfl rfl rfl) (cA rfl (cA (b2 rfl rfl rfl) (cA rfl rfl))))) (by simp)) rfl (OG (show 5<1000 by decide) f (g l aO)))) rfl) e
theorem DC(k:Nat)(hk:7<=k)(w:H[0]?=some (oY af)){ks:List Rk}(K:kz ks)(L:PV):∀(ps:List Rk) (i:Nat) (g m a:Option PV),(∀q∈ps,q∈ks)->(∀f∈gy i ps,kF f∈af.map (·.1)) ->
  ∃p u v,dX QQ (u5 (run txt k)) (dG i (ps.map bj)) ⟨[some L,some (.ref 0),g,m,a],H⟩=some (.ok .nx,⟨[some L,some (.ref 0),p,u,v],H⟩)
 | [],i,g,m,a,_,_=>⟨g,m,a,rfl⟩
 | q::ps,i,g,m,a,hp,hf=>by
  have y:=hp q aO;have B:=(K.good q y).2;have hd:=(K.good _ y).1.1;obtain⟨j,rfl⟩:∃j,k=j+1:=⟨k-1,by lia⟩
  have step:∃c,Ev (u5 (run txt (j+1))) ⟨[some L,some (.ref 0),some (iN i),some (bj q),a],H⟩ .nx ⟨[some L,some (.ref 0),some (iN i),some (bj q),c],H⟩:=by
   have t:Ek (toB (op2 (ku false) (op2 bf Qx (kI 0)) (kU .aq (aj (kS "lent") Q8)))) ⟨[some L,some (.ref 0),some (iN i),some (bj q),a],H⟩ (iS q.2):=bT (b2 (b2 (b2 rfl rfl rfl) rfl (qp _ _)) rfl (vt _ _));cases o:iS q.2 with
   | false=>rw[o]at t;exact⟨a,iF t rfl⟩
   | true =>
    rw[o]at t;obtain⟨c,e⟩:=OH (run txt (j+1)) w (some L) q i (List.range (lv (held q.2)).length) a λl C=>hf _ (by
     rw[gy];refine fI _ ?_;unfold wK;rw[if_pos o];exact az.mpr ⟨l,C,rfl⟩)
    refine⟨c,iT t (fS (kn (cA (bV (cA (cb (cA (b2 (b2 rfl rfl rfl) rfl ?_) rfl) rfl (by simp[ah,dH]) (lQ (held q.2) j (by have:=hd.2;lia) (by grind))) rfl) ?_) rfl) (by lia)) e)⟩
    ·obtain⟨x,d⟩:=q;cases d with
     | ow s=>cases o
     | ho b s=>rfl
    ·show some (PV.int ((cj (lv (held q.2))).length:Int))=_;rw[fF];rfl
  obtain⟨c,D⟩:=step;obtain⟨p,u,v,e⟩:=DC (j+1) hk w K L ps (i+1) (some (iN i)) (some (bj q)) c (λr hr=>hp r (aM _ hr)) λf E=>hf f (by rw[gy];exact dm _ E)
  refine⟨p,u,v,?_⟩;rw[aH,dG];exact fC rfl D e
theorem Tq(k:Nat)(hk:7<=k)(a:H[0]?=some (oY af)){ks ps:List Rk}(K:kz ks)(hp:∀q∈ps,q∈ks)(b:∀f∈gy 0 ps,kF f∈af.map (·.1)):run txt (k+1) "_law_begun" [.aq (ps.map bj),.ref 0] H=some (.ok (.bl true),H):=by
 obtain⟨c,d,g,e⟩:=DC k hk a K (.aq (ps.map bj)) ps 0 none none none hp b;rw[FU];exact iJ (sq (fS (sG (eV rfl rfl)) e) (rS rfl))
end
section
variable {af:eJ} {H:List aE}
theorem OI(h:List aE)(a:bW):ku true h (.str a.w) (.aq [.str "lend",.str "sole"])=some (.bl (!eK a)):=rfl
def U4(a:bW):Bool:=a.t&&(a.n==a.k)
def Gw(n:Nat)(a:bW)(l:List Nat):List Ft:=if eK a=true/\U4 a=false then l.flatMap (AI n a)else []
abbrev O5(R:PV)(n:Nat)(l:List Nat)(q:Nat×bW)(a b:Option PV)(H:List aE):dB:=⟨[some R,some (iN n),some (nT l),some (.ref 0),some (eN q),a,b],H⟩
theorem OJ(c:CT)(i:H[0]?=some (oY af))(R:PV)(n:Nat)(l:List Nat)(q:Nat×bW)(j:Nat):∀(ls:List Nat) (a:Option PV),(∀b∈ls,kF ⟨b,q.2.k,(j:Int),(n:Int),q.2.f+(j:Int)⟩∈af.map (·.1)) ->
  ∃g,dX (aX 6) (NJ c) (ls.map iN) (O5 R n l q (some (iN j)) a H)=some (.ok .nx,O5 R n l q (some (iN j)) g H)
 | [],a,_=>⟨a,rfl⟩
 | b::ls,a,m=>by
  obtain⟨g,e⟩:=OJ c i R n l q j ls (some (iN b)) λd hd=>m d (aM _ hd)
  refine⟨g,?_⟩;exact fC rfl (iF (bT (b2 (x:=cP (kF ⟨b,q.2.k,(j:Int),(n:Int),q.2.f+(j:Int)⟩)) (tU (ps:=[iN b,.str q.2.k,iN j,iN n,.int (q.2.f+(j:Int))]) (cA rfl (cA (b2 rfl rfl rfl) (cA rfl (cA rfl (cA (b2 (b2 rfl rfl rfl) rfl rfl) rfl))))) (by simp)) rfl (OG (show 5<1000 by decide) i (m b aO)))) rfl) e
theorem DD(c:CT)(p:H[0]?=some (oY af))(R:PV)(n:Nat)(l:List Nat)(q:Nat×bW):∀(g:List Nat) (i a:Option PV),(∀j∈g,∀b∈l,kF ⟨b,q.2.k,(j:Int),(n:Int),q.2.f+(j:Int)⟩∈af.map (·.1)) ->
  ∃m o,dX (aX 5) (NK c) (g.map lO) (O5 R n l q i a H)=some (.ok .nx,O5 R n l q m o H)
 | [],i,a,_=>⟨i,a,rfl⟩
 | j::g,i,a,r=>by
  obtain⟨t,u⟩:=OJ c p R n l q j l a (r j aO);obtain⟨m,o,e⟩:=DD c p R n l q g (some (iN j)) t λd hd=>r d (aM _ hd)
  refine⟨m,o,?_⟩;rw[aH,Y0];exact fC rfl (fS (sV rfl rfl) u) e
theorem Y1(k:Nat)(i:H[0]?=some (oY af)){R:PV}{n:Nat}{q:Nat×bW}{X:List Str}(ok:vx X 3 q.2)(o:∀H,bf H R (iN n)=some (eN q))(l:List Nat)(p:∀f∈Gw n q.2 l,kF f∈af.map (·.1)):run txt (k+1) "_law_own" [R,iN n,nT l,.ref 0] H=some (.ok (.bl true),H):=by
 rw[NL];have t:Ek (dk Qr (aV true) Qf) (O5 R n l q none none H) (!eK q.2 || U4 q.2):=by
  have a:Ek Qr (O5 R n l q none none H) (!eK q.2):=bT (b2 (b2 rfl rfl rfl) rfl (OI _ _));have b:Ek Qf (O5 R n l q none none H) (U4 q.2):=by
   have c:Ek (eH (op2 bf (rd 4) (kI 3))) (O5 R n l q none none H) q.2.t:=tB (b2 rfl rfl rfl);unfold U4;cases ht:q.2.t with
   | true=>rw[ht]at c;exact iT c (bT (b2 (b2 rfl rfl rfl) (b2 rfl rfl rfl) (dz _ _ _)))
   | false=>rw[ht]at c;exact iF c rfl
  cases d:eK q.2 with
  | true=>rw[d]at a;exact iF a b
  | false=>rw[d]at a;exact iT a rfl
 have g:Ev (dh Qn (aX 4)) ⟨[some R,some (iN n),some (nT l),some (.ref 0),none,none,none],H⟩ .nx (O5 R n l q none none H):=aS (b2 rfl rfl (o _)) rfl;by_cases hc:eK q.2=true/\U4 q.2=false
 ·rw[hc.1,hc.2]at t;have r:=ok.m0;have y:=ok.f0;have B:=ok.few;obtain⟨C,D,e⟩:=DD (run txt k) i R n l q (List.range q.2.m.toNat) none none λj u b v=>p _ (by
   unfold Gw;rw[if_pos hc];refine dy.mpr ⟨b,v,az.mpr ⟨j,u,?_⟩⟩;rw[Int.mul_one])
  have w:Ek (He (wc uG (aj (op2 bf (rd 4) (kI 5)) (aV [])))) (O5 R n l q none none H) (.sq ((List.range q.2.m.toNat).map lO)):=kn (cA (b2 rfl rfl (by
   show some (PV.int q.2.m)=some (PV.int (q.2.m.toNat:Int));rw[mM r])) rfl) (by lia)
  exact iJ (sq g (sq (iF t rfl) (sq (fS w e) (rS rfl))))
 ·have:(!eK q.2 || U4 q.2)=true:=by
   cases d:eK q.2 with
   | false=>rfl
   | true =>
    cases x:U4 q.2 with
    | true=>rfl
    | false=>exact absurd ⟨d,x⟩ hc
  rw[this]at t;exact iJ (sq g (o9 (iT t (rS rfl))))
end
section
variable {m:Md} {most:Nat}
abbrev wM(I:PV)(f:Ft)(c:Int)(P R:PV)(q:Nat×bW)(a b:Option PV)(h:List aE):dB:=⟨[some (vV f c),some P,some I,some R,some (iN f.n),some (.str f.x),some (.int f.l),some (.int f.g),some (.int f.s),some (eN q),a,b],h⟩
theorem Y2{I:PV}{f:Ft}{c:Int}{P R:PV}{q:Nat×bW}(l:f.g<(m.as.length:Int))(o:∀{n:Nat} {p:Nat×bW},m.as[n]?=some p->∀H,bf H R (.int (n:Int))=some (eN p))(e i:Option PV)(h:List aE) :
  Ek (dk QC (dk QI (toB (op2 jG (op2 bf (op2 bf (rd 3) (rd 7)) (kI 2)) Qo)) (aV false)) (aV false)) (wM I f c P R q e i h) (xY m f.g q.2.k):=by
 have a:Ek QC (wM I f c P R q e i h) (decide (f.g>=0)):=bT (b2 rfl rfl (ge_int _ _ _));unfold xY;by_cases d:0<=f.g
 ·rw[dq (d)]at a;obtain⟨p,hp⟩:∃p,m.as[f.g.toNat]?=some p:=⟨_,b7 (by lia)⟩
  have j:∀H,bf H R (.int f.g)=some (eN p):=λH=>by
   grind
  rw[dq d,hp,Bool.true_and];have b:Ek QI (wM I f c P R q e i h) p.2.t:=tB (b2 (b2 rfl rfl (j _)) rfl rfl);refine iT a ?_;show _=some (Rs.ok (p.2.t&&(p.2.n==q.2.k)),_);cases ht:p.2.t with
  | true=>rw[ht]at b;exact iT b (bT (b2 (b2 (b2 rfl rfl (j _)) rfl rfl) (b2 rfl rfl rfl) (dz _ _ _)))
  | false=>rw[ht]at b;exact iF b rfl
 ·rw[iu (d)]at a;rw[iu d];exact iF a rfl
def Ku(q:Nat×bW)(f:Ft):List S4:=if(f.x==q.2.k)=true then []else [⟨f.x,f.l,f.g,f.s⟩]
def Ts(q:Nat×bW)(f:Ft):List S4:=if(eK q.2&&(q.2.t&&O4 q.2 f.x f.l))=true then [⟨q.2.k,f.l-q.2.f,f.g,f.s⟩]else []
theorem acP{I:PV}{f:Ft}{c:Int}{P R:PV}{q:Nat×bW}(b:Option PV):Ev (dk (toB (op2 KA (rd 5) Qo)) (gj (zD "list" (k0 (iB wa)) (rd 10) (aj (kU .aq (aj (rd 5) (aj (rd 6) QR))) (aV [])))) (aV .nx)) (wM I f c P R q (some (.ref 0)) b [⟨.lst,[]⟩]) .nx (wM I f c P R q (some (.ref 0)) b [⟨.lst,(Ku q f).map ig⟩]):=by
 have a:Ek (toB (op2 KA (rd 5) Qo)) (wM I f c P R q (some (.ref 0)) b [⟨.lst,[]⟩]) (!(f.x==q.2.k)):=bT (b2 rfl (b2 rfl rfl rfl) (vv _ _ _));unfold Ku;cases d:f.x==q.2.k with
 | true=>rw[d]at a;exact iF a rfl
 | false =>
  rw[d]at a;exact iT a (dS (sx rfl rfl (cA (tU (cA rfl (cA rfl (cA rfl (cA rfl rfl)))) (by simp)) rfl) (aC (ps:=[]) rfl (by decide))))
theorem acQ{I:PV}{f:Ft}{c:Int}{P R:PV}{q:Nat×bW}(i:Option PV)(acc:List S4)(p:acc.length<=100):Ev (dk Q1 (gj (zD "list" (k0 (iB wa)) (rd 10) (aj (kU .aq (aj Qo (aj QN QR))) (aV [])))) (aV .nx)) (wM I f c P R q (some (.ref 0)) i [⟨.lst,acc.map ig⟩]) .nx (wM I f c P R q (some (.ref 0)) i [⟨.lst,(acc++Ts q f).map ig⟩]):=by
 obtain⟨s,g⟩:=nw (wM I f c P R q (some (.ref 0)) i [⟨.lst,acc.map ig⟩]);have t:Ev Q1 s (eK q.2&&(q.2.t&&O4 q.2 f.x f.l)) s:=by
  have a:Ev (toB (op2 (ku false) (op2 bf (rd 9) (kI 1)) (kU .aq (aj (kS "lend") Q8)))) s (eK q.2) s:=by rw[g];exact bT (b2 (b2 rfl rfl rfl) rfl (Ta _ _ _ _))
  have b:Ev (eH (op2 bf (rd 9) (kI 3))) s q.2.t s:=by rw[g];exact tB (b2 rfl rfl rfl)
  have d:Ev (toB (op2 jG (op2 bf (rd 9) (kI 2)) (rd 5))) s (q.2.n==f.x) s:=by rw[g];exact bT (b2 (b2 rfl rfl rfl) rfl (dz _ _ _))
  have e:Ev (toB (chain leO Mh (kI 0) QN (op2 bf (rd 9) (kI 5)))) s (decide (0<=f.l-q.2.f)&&decide (f.l-q.2.f<q.2.m)) s:=by rw[g];exact bT (chB rfl (b2 rfl (b2 rfl rfl rfl) rfl) (le_int _ _ _) (b2 rfl rfl rfl) (lt_int _ _ _))
  have o:(decide (0<=f.l-q.2.f)&&decide (f.l-q.2.f<q.2.m))=(decide (q.2.f<=f.l)&&decide (f.l<q.2.f+q.2.m)):=by
   grind
  rw[o]at e;unfold O4;cases j:eK q.2 with
  | false=>rw[j]at a;exact iF a rfl
  | true =>
   rw[j]at a;refine iT a ?_;cases k:q.2.t with
   | false=>rw[k]at b;exact iF b rfl
   | true =>
    rw[k]at b;refine iT b ?_;cases hN:q.2.n==f.x with
    | false=>rw[hN]at d;exact iF d rfl
    | true=>rw[hN]at d;exact iT d e
 unfold Ts;cases hc:eK q.2&&(q.2.t&&O4 q.2 f.x f.l)with
 | false=>rw[hc]at t;rw[if_neg bX,dc,<-g];exact iF t rfl
 | true =>
  rw[hc]at t;rw[if_pos rfl,bU,<-g];refine iT t ?_;rw[g];exact dS (sx rfl rfl (cA (tU (cA (b2 rfl rfl rfl) (cA (b2 rfl (b2 rfl rfl rfl) rfl) (cA rfl (cA rfl rfl)))) (by simp)) rfl) (aC rfl (by grind)))
end
section
variable {m:Md} {most:Nat}
def qx(a:bW):Prop:=(a.w==Str.ofString "take")=false
theorem U5{a:PV}:∀q∈DL a,qx q:=λq b=>by
 unfold DL at b;split at b
 ·rw[aG]at b;subst b;show(Str.ofString "read"==Str.ofString "take")=false;decide
 ·cases b
theorem DE{o:Op}:∀q∈oN o,qx q:=λq a=>by
 cases o with
 | n i=>cases a
 | s s =>
  rcases bB.mp a with h | h
  ·exact U5 q h
  ·rw[aG]at h;subst h;show(Str.ofString "read"==Str.ofString "take")=false;decide
theorem U6{s:Sp}:∀q∈wH s,qx q:=λq a=>by
 unfold wH at a;split at a
 ·rw[aG]at a;subst a;show(Str.ofString "fill"==Str.ofString "take")=false;decide
 ·rcases bB.mp a with h | h
  ·exact U5 q h
  ·rw[aG]at h;subst h;show(Str.ofString "turn"==Str.ofString "take")=false;decide
theorem acR(s:Sh):(oW s==Str.ofString "take")=false:=by unfold oW;split<;>decide
theorem OK:∀(l:List Rk) (i:Nat),∀q∈fN i l,qx q
 | [],_,_,h=>nomatch h
 | r::l,i,q,h=>by
  simp only[fN,aW]at h;rcases h with rfl | h
  ·obtain⟨x,d⟩:=r;cases d with
   | ow s=>exact acR s
   | ho b s=>cases b<;>(show(Str.ofString _==Str.ofString "take")=false;decide)
  ·exact OK l (i+1) q h
theorem OL(h:cB m most){q:Nat×bW}(B:q∈m.as)(hw:(q.2.w==Str.ofString "take")=true):(q.2.k==Str.ofString "")=false:=by
 obtain⟨r,hr,jD⟩:=vM B;have ok:=h.ok r (cK hr);obtain⟨i,a⟩:=q;have c:∀as:List bW,(∀q∈as,qx q)->a∈cR as->(a.k==Str.ofString "")=false:=λas p C=>by
  have:(a.w==Str.ofString "take")=false:=by
   cases as with
   | nil =>
    simp only[cR,aG]at C;subst C;decide
   | cons b l=>exact p a C
  rw[show(a.w==Str.ofString "take")=true from hw]at this
  cases this
 have f:∀{as bs:List bW},(∀q∈as,qx q)->(∀q∈bs,qx q)->∀q∈as++bs,qx q:=by grind
 have one:∀{x:bW},qx x->∀q∈[x],qx q:=λ{x} E q B=>by rw[aG]at B;subst B;exact E
 have D:∀q∈[],qx q:=λq z=>nomatch z
 have w:∀{s:String},(Str.ofString s==Str.ofString "take")=false->∀x t,qx (qm (Str.ofString s) x t):=λh _ _=>h
 cases r with
 | put s o=>exact c _ (f DE U6) jD
 | set s g a b=>exact c _ (f (f DE DE) U6) jD
 | vA t s=>exact c _ (f (one (w (by decide) _ _)) (one (w (by decide) _ _))) jD
 | vD t s=>exact c _ (f (one (w (by decide) _ _)) (one (w (by decide) _ _))) jD
 | Gn a i n=>exact c _ (f DE D) jD
 | go n=>exact c _ D jD
 | KN a=>exact c _ DE jD
 | iU z =>
  cases z with
  | none=>exact c _ D jD
  | some r =>
   refine c _ (one ?_) jD;obtain⟨x,d⟩:=r;cases d with
   | ow s=>exact acR s
   | ho b s=>show(Str.ofString "give"==Str.ofString "take")=false;decide
 | oT x b s=>exact c _ (one (by cases b<;>(show(Str.ofString _==Str.ofString "take")=false;decide))) jD
 | call y j v =>
  obtain⟨I,ht,J,L,M,H⟩:=ok;have TZ:a∈fN 0 v++jd::ie y:=by
   have e:cR (O1 (.call y j v))=fN 0 v++jd::ie y:=by
    show cR (fN 0 v++jd::ie y)=_;cases fN 0 v<;>rfl
   rw[<-e];exact jD
  have u:qx a->(a.k==Str.ofString "")=false:=λz=>by
   rw[show(a.w==Str.ofString "take")=false from z]at hw
   cases hw
  rcases bB.mp TZ with p | p
  ·exact u (OK v 0 a p)
  ·rcases aW.mp p with rfl | p
   ·exact u (by show(Str.ofString "hand"==Str.ofString "take")=false;decide)
   ·cases y with
    | none=>cases p
    | some r =>
     obtain⟨x,d⟩:=r;cases d with
     | ow s =>
      simp only[ie,aG]at p;subst p;exact u (by show(Str.ofString "fill"==Str.ofString "take")=false;decide)
     | ho b s =>
      simp only[ie,aG]at p;subst p;exact h.ks.ne _ (H (x,.ho b s) rfl)
end
section
variable {m:Md} {most:Nat}
abbrev RW(m:Md):PV:=.lst (m.as.map eN)
def on3(m:Md)(q:Nat×bW)(f:Ft):List S4:=if((q.2.w==Str.ofString "take")&&lD m q.1 f.x)=true then(List.range (Ti m q.2.k)).map fun(j:Nat)=>⟨q.2.k,(j:Int),f.g,f.s⟩else []
theorem Ip:∀l:List S4,ah (l.map ig)=true
 | []=>rfl
 | o::l=>by simp[ah,noRef,ig,Ip l]
theorem agA(k:Nat)(hk:6<=k)(h:cB m most){q:Nat×bW}(hq:q∈m.as){f:Ft}{c:Int}{R:PV}(r:Option PV)(acc:List S4)(hl:acc.length<=100) :
  ∃p T h',Ev (dk (dk Qi (toB (op2 (ku false) (rd 5) (bnd Qz (bD 0 2 (run txt (k+1) "_law_sources"))))) (aV false))
   (er (dh (op2 bf (B8 (op2 bf Q9 (kI 1)) (op2 bf Q9 (kI 3))) Qo) (aX 11))
   (dh (op2 eQ (rd 10) (cY false [none,none,some 7,some 9,some 8] (He (wc uG (aj (gI gA (aj (bnd QO (bD 0 1 (run txt (k+1) "_law_leaves"))) (aV []))) (aV [])))) Qg)) (aX 10)))
   (aV .nx)) (wM (.int 1) f c m.prog R q (some (.ref 0)) r [⟨.lst,acc.map ig⟩]) .nx (wM (.int 1) f c m.prog R q (some p) T h')/\k8 h' p=some (.lst ((acc++on3 m q f).map ig)):=by
 have u:∀H,bf H m.prog (.int 1)=some m.F1:=vI
 have v:∀H,bf H m.F1 (.int 1)=some (.aq (m.P.map bj)):=λ_=>rfl
 have B:∀H,bf H m.F1 (.int 3)=some (.aq (m.LT.map bj)):=λ_=>rfl
 have C:∀H,bf H m.F1 (.int 4)=some (.aq m.rows):=λ_=>rfl
 have nP:=j9 h;have d:k8 [⟨.lst,acc.map ig⟩] (.ref 0)=some (.lst (acc.map ig)):=j7 (Ip _);have I:∀tk j o,j<3->m.hr j=true->Gives (run txt (k+1) "_law_sources" [m.prog,cz m.fn (.call tk j o)] []) (stI (wJ (m.ps j) (m.so j))):=λtk j o X hh=>Gu k h X hh
 have fr:∀{H:List aE} {l:List S4},k8 H (.lst (l.map ig))=some (.lst (l.map ig)):=λ{H l}=>zY (by simp[noRef,Ip])
 obtain⟨P,hP⟩:=nw m.prog;obtain⟨F,hF⟩:=nw m.F1;rw[<-hF]at u v B C;rw[<-hP]at u I nP;rw[<-hP];have a:Ek Qi (wM (.int 1) f c P R q (some (.ref 0)) r [⟨.lst,acc.map ig⟩]) (q.2.w==Str.ofString "take"):=bT (b2 (b2 rfl rfl rfl) rfl (dz _ _ _));unfold on3;cases hw:q.2.w==Str.ofString "take" with
 | false =>
  rw[hw]at a;refine⟨.ref 0,r,_,iF (iF a rfl) rfl,?_⟩;rw[Bool.false_and,if_neg bX,dc];exact d
 | true =>
  rw[hw]at a;have QW:=OL h hq hw;have Y:q.2.k≠"":=λz=>by rw[z]at QW;exact absurd QW (by decide)
  have Z:eK q.2=false:=by
   have e:=bu hw;unfold eK;rw[e];decide
  rcases(Dt h hq).tk Y with z | ⟨_,_,b,s,j,o,hr,hx,J,X⟩
  ·rw[Z]at z;cases z
  have ls:=I (some (q.2.k,.ho b s)) j o X J;have L:noRef (cz m.fn (.call (some (q.2.k,.ho b s)) j o))=true:=Dd mI _ (h.ok _ (cK hr));have M:∀H,bf H (.aq m.rows) (.int (q.1:Int))=some (cz m.fn (.call (some (q.2.k,.ho b s)) j o)):=λH=>Ou hr H
  obtain⟨RO,hRO⟩:=nw (cz m.fn (.call (some (q.2.k,.ho b s)) j o));rw[<-hRO]at ls L M;have TQ:lD m q.1 f.x=((wJ (m.ps j) (m.so j)).map sI).any λy=>y==f.x:=by
   unfold lD YU;rw[hr];show((if m.hr j=true then wJ (m.ps j) (m.so j)else []).map sI).any _=_
   rw[if_pos J]
  have e1':stI (wJ (m.ps j) (m.so j))=.lst (((wJ (m.ps j) (m.so j)).map sI).map .str):=by
   show PV.lst ((wJ (m.ps j) (m.so j)).map λi=>.str (sI i))=_
   rw[bY];rfl
  rw[e1']at ls;have t:Ek (toB (op2 (ku false) (rd 5) (bnd Qz (bD 0 2 (run txt (k+1) "_law_sources"))))) (wM (.int 1) f c P R q (some (.ref 0)) r [⟨.lst,acc.map ig⟩]) (lD m q.1 f.x):=bT (b2 (x:=.str f.x) (y:=.lst (((wJ (m.ps j) (m.so j)).map sI).map .str)) rfl (cb (as:=[P,RO]) (cA rfl (cA (b2 (x:=.aq m.rows) (y:=.int (q.1:Int)) (b2 (x:=F) (b2 (x:=P) rfl rfl (u _)) rfl (C _)) (b2 (x:=eN q) rfl rfl rfl) (M _)) rfl)) rfl (by simp[ah,nP,L]) ls) (by rw[Dk,<-TQ];rfl))
  cases Zx:lD m q.1 f.x with
  | false =>
   rw[Zx]at t;refine⟨.ref 0,r,_,iF (iT a t) rfl,?_⟩;rw[Bool.and_false,if_neg bX,dc];exact d
  | true =>
   rw[Zx]at t;obtain⟨c1,c2⟩:=AJ h hx;have c1:Ti m q.2.k=(lv s).length:=c1;have hd:=(h.ks.good _ hx).1.1;have N:=lQ s k (by have:=hd.2;simp only[held]at this;lia) (by have:=xB s;have:=hd.1;simp only[held]at this;lia)
   obtain⟨E,hE⟩:=nw (enc s);have ek:∀H,bf H (encK (.ho b s)) (.int 1)=some E:=λH=>by rw[hE];rfl
   have nE:noRef E=true:=by rw[hE];exact dH s
   rw[<-hE]at N;obtain⟨D,hD⟩:=nw (encK (.ho b s));rw[<-hD]at ek;obtain⟨Q,kd⟩:=Kt h hx (fa:=op2 bf Q9 (kI 1)) (fb:=op2 bf Q9 (kI 3)) (fx:=op2 bf (rd 9) (kI 6)) (s:=wM (.int 1) f c P R q (some (.ref 0)) r [⟨.lst,acc.map ig⟩]) (b2 (x:=F) (b2 (x:=P) rfl rfl (u _)) rfl (v _)) (b2 (x:=F) (b2 (x:=P) rfl rfl (u _)) rfl (B _)) (λH=>b2 (x:=eN q) rfl rfl rfl)
   rw[<-hD]at kd;have ln:∀H,gA H [.lst (cj (lv s))]=some (iN (lv s).length):=λH=>by
    show some (PV.int ((cj (lv s)).length:Nat))=_;rw[fF];rfl
   have cq:Ek (cY false [none,none,some 7,some 9,some 8] (He (wc uG (aj (gI gA (aj (bnd QO (bD 0 1 (run txt (k+1) "_law_leaves"))) (aV []))) (aV [])))) Qg) (wM (.int 1) f c P R q (some (.ref 0)) (some D) ([⟨.lst,acc.map ig⟩]++Q)) (.lst ((List.range (lv s).length).map fun(j:Nat)=>ig ⟨q.2.k,(j:Int),f.g,f.s⟩)):=by
    refine cM (l:=List.range (lv s).length) (e:=lO) (kn (j:=(lv s).length) (cA (bV (as:=[.lst (cj (lv s))]) (cA (cb (as:=[E]) (cA (b2 (x:=D) rfl rfl (ek _)) rfl) rfl (by simp[ah,nE]) N) rfl) (ln _)) rfl) (by lia)) (by rw[dY];lia) λi _=>?_
    rw[Y0];exact e1 (Jp:=[none,some (iN i),some (.int f.g),some (eN q),some (.int f.s)]) (h1:=[⟨.lst,acc.map ig⟩]++Q) rfl (tU (ps:=[.str q.2.k,iN i,.int f.g,.int f.s]) (cA (b2 (x:=eN q) rfl rfl rfl) (cA rfl (cA rfl (cA rfl rfl)))) (by simp))
   have ad:eQ ([⟨.lst,acc.map ig⟩]++Q) (.ref 0) (.lst ((List.range (lv s).length).map fun(j:Nat)=>ig ⟨q.2.k,(j:Int),f.g,f.s⟩))=some (.lst ((acc++(List.range (lv s).length).map fun(j:Nat)=>(⟨q.2.k,(j:Int),f.g,f.s⟩:S4)).map ig)):=by
    have e:eQ ([⟨.lst,acc.map ig⟩]++Q) (.ref 0) (.lst ((List.range (lv s).length).map fun(j:Nat)=>ig ⟨q.2.k,(j:Int),f.g,f.s⟩))=sizeOk ((acc.map ig).length+((List.range (lv s).length).map fun(j:Nat)=>ig ⟨q.2.k,(j:Int),f.g,f.s⟩).length) (.lst (acc.map ig++(List.range (lv s).length).map fun(j:Nat)=>ig ⟨q.2.k,(j:Int),f.g,f.s⟩)):=rfl
    rw[e,bU,bY];exact if_pos (by rw[aD,aD,dY];show _<=4000000;lia)
   refine⟨_,some D,[⟨.lst,acc.map ig⟩]++Q,iT (iT a t) (sq (aS kd rfl) (aS (b2 rfl cq ad) rfl)),?_⟩;rw[tJ,if_pos rfl,c1];exact fr
def onL(m:Md)(q:Nat×bW)(f:Ft):List S4:=if xY m f.g q.2.k=true then []else Ku q f++Ts q f++on3 m q f
theorem acT(k:Nat)(hk:6<=k)(h:cB m most){q:Nat×bW}{f:Ft}(b:m.as[f.n]?=some q)(j:f.g<(m.as.length:Int))(c:Int):Gives (run txt (k+2) "_law_on" [vV f c,m.prog,.int 1,RW m] []) (.lst ((onL m q f).map ig)):=by
 rw[HE];have a:∀{n:Nat} {p:Nat×bW},m.as[n]?=some p->∀H,bf H (RW m) (.int n)=some (eN p):=λe H=>qZ e H
 have o:(Ku q f).length<=1:=by unfold Ku;split<;>simp
 have y:(Ts q f).length<=1:=by unfold Ts;split<;>simp
 generalize RW m=R at a ⊢
 have d:Ev QB (S0 [some (vV f c),some m.prog,some (.int 1),some R,none,none,none,none,none,none,none,none]) .nx (S0 [some (vV f c),some m.prog,some (.int 1),some R,some (iN f.n),some (.str f.x),some (.int f.l),some (.int f.g),some (.int f.s),none,none,none]):=rfl;have i:Ev QP (S0 [some (vV f c),some m.prog,some (.int 1),some R,some (iN f.n),some (.str f.x),some (.int f.l),some (.int f.g),some (.int f.s),none,none,none]) .nx (wM (.int 1) f c m.prog R q none none []):=aS (b2 rfl rfl (a b _)) rfl;have t:=Y2 (I:=.int 1) (c:=c) (P:=m.prog) (q:=q) j a none none [];unfold onL;cases ht:xY m f.g q.2.k with
 | true=>rw[ht]at t;exact gV (sq d (sq i (o9 (iT t (rS rfl))))) rfl
 | false =>
  rw[ht]at t;obtain⟨p,r,u,v,w⟩:=agA k hk h (cK b) (f:=f) (c:=c) (R:=R) none (Ku q f++Ts q f) (by grind)
  exact⟨p,u,iJ (sq d (sq i (sq (iF t rfl) (sq (s1:=wM (.int 1) f c m.prog R q (some (.ref 0)) none [⟨.lst,[]⟩]) rfl (sq (acP none) (sq (acQ none _ (by lia)) (sq v (rS rfl)))))))),w⟩
end
section
variable {m:Md} {most:Nat}
def nu(a:bW):Prop:=eK a=false
theorem mf{w:String}(h:(Str.ofString "lend"==Str.ofString w || (Str.ofString "sole"==Str.ofString w || false))=false){a:bW}(e:a.w=Str.ofString w):nu a:=by unfold nu eK;rw[e];exact h
theorem U7{a:PV}:∀q∈DL a,nu q:=λq b=>by
 unfold DL at b;split at b
 ·rw[aG]at b;subst b;exact mf (by decide) rfl
 ·cases b
theorem DF{o:Op}:∀q∈oN o,nu q:=λq a=>by
 cases o with
 | n i=>cases a
 | s s =>
  rcases bB.mp a with h | h
  ·exact U7 q h
  ·rw[aG]at h;subst h;exact mf (by decide) rfl
theorem U8{s:Sp}:∀q∈wH s,nu q:=λq a=>by
 unfold wH at a;split at a
 ·rw[aG]at a;subst a;exact mf (by decide) rfl
 ·rcases bB.mp a with h | h
  ·exact U7 q h
  ·rw[aG]at h;subst h;exact mf (by decide) rfl
theorem acU(s:Sh)(a:bW)(e:a.w=oW s):nu a:=by
 unfold oW at e;split at e
 ·exact mf (by decide) e
 ·exact mf (by decide) e
theorem OM:∀(l:List Rk) (i:Nat),i+l.length<=4->∀q∈fN i l,nu q\/(q.k==Str.ofString "")=false
 | [],_,_,_,h=>nomatch h
 | r::l,i,a,q,h=>by
  rw[aR]at a;simp only[fN,aW]at h;rcases h with rfl | h
  ·obtain⟨x,d⟩:=r;cases d with
   | ow s=>exact .inl (acU s _ rfl)
   | ho b s =>
    refine .inr ?_;have:i=0\/i=1\/i=2\/i=3:=by lia
    rcases this with rfl | rfl | rfl | rfl<;>kernel_rfl
  ·exact OM l (i+1) (by lia) q h
theorem Y3(h:cB m most){q:Nat×bW}(y:q∈m.as)(hw:eK q.2=true):(q.2.k==Str.ofString "")=false:=by
 obtain⟨r,hr,jD⟩:=vM y;have ok:=h.ok r (cK hr);obtain⟨i,a⟩:=q;have p:nu a->(a.k==Str.ofString "")=false:=λz=>by
  rw[show eK a=false from z]at hw
  cases hw
 have c:∀as:List bW,(∀q∈as,nu q)->a∈cR as->(a.k==Str.ofString "")=false:=λas u B=>p (by
  cases as with
  | nil =>
   simp only[cR,aG]at B;subst B;exact mf (by decide) rfl
  | cons b l=>exact u a B)
 have f:∀{as bs:List bW},(∀q∈as,nu q)->(∀q∈bs,nu q)->∀q∈as++bs,nu q:=by grind
 have one:∀{x:bW},nu x->∀q∈[x],nu q:=λ{x} C q y=>by rw[aG]at y;subst y;exact C
 have D:∀q∈[],nu q:=λq z=>nomatch z
 cases r with
 | put s o=>exact c _ (f DF U8) jD
 | set s g a b=>exact c _ (f (f DF DF) U8) jD
 | vA t s=>exact c _ (f (one (mf (by decide) rfl)) (one (mf (by decide) rfl))) jD
 | vD t s=>exact c _ (f (one (mf (by decide) rfl)) (one (mf (by decide) rfl))) jD
 | Gn a i n=>exact c _ (f DF D) jD
 | go n=>exact c _ D jD
 | KN a=>exact c _ DF jD
 | iU z =>
  cases z with
  | none=>exact c _ D jD
  | some r =>
   refine c _ (one ?_) jD;obtain⟨x,d⟩:=r;cases d with
   | ow s=>exact acU s _ rfl
   | ho b s=>exact mf (by decide) rfl
 | oT x b s =>
  have C:=ok.2;have:a=qm (lw b) s x:=by
   have:a∈[qm (lw b) s x]:=jD;simpa using this
  subst this;exact h.ks.ne _ C
 | call w j v =>
  obtain⟨E,ht,H,I,J,L⟩:=ok;have TZ:a∈fN 0 v++jd::ie w:=by
   have e:cR (O1 (.call w j v))=fN 0 v++jd::ie w:=by
    show cR (fN 0 v++jd::ie w)=_;cases fN 0 v<;>rfl
   rw[<-e];exact jD
  rcases bB.mp TZ with u | u
  ·rcases OM v 0 (by lia) a u with z | z
   ·exact p z
   ·exact z
  ·rcases aW.mp u with rfl | u
   ·exact p (mf (by decide) rfl)
   ·cases w with
    | none=>cases u
    | some r =>
     obtain⟨x,d⟩:=r;cases d with
     | ow s =>
      simp only[ie,aG]at u;subst u;exact p (mf (by decide) rfl)
     | ho b s =>
      simp only[ie,aG]at u;subst u;exact p (mf (by decide) rfl)
theorem Kv(h:cB m most){q:Nat×bW}(d:q∈m.as){f:Ft}{o:S4}(ho:o∈onL m q f):o∈iG m q f:=by
 unfold onL at ho;cases ht:xY m f.g q.2.k with
 | true=>rw[ht,if_pos rfl]at ho;cases ho
 | false =>
  rw[ht,if_neg bX]at ho;unfold iG;rw[ht];have ps:(q.2.k==Str.ofString "")=false->∀l,l∈given m q f->(⟨q.2.k,l,f.g,f.s⟩:S4)∈kc m q f:=λhk l i=>by
   unfold kc;rw[hk,ht,if_neg (by decide)]
   exact az.mpr ⟨l,i,rfl⟩
  rcases bB.mp ho with ho | ho
  ·rcases bB.mp ho with ho | ho
   ·refine fI _ ?_;unfold Ku at ho;cases e:f.x==q.2.k with
    | true=>rw[e,if_pos rfl]at ho;cases ho
    | false=>rw[e,if_neg bX]at ho;rw[if_pos (by decide)];exact ho
   ·refine dm _ ?_;unfold Ts at ho;cases hc:eK q.2&&(q.2.t&&O4 q.2 f.x f.l)with
    | false=>rw[hc,if_neg bX]at ho;cases ho
    | true =>
     rw[hc,if_pos rfl,aG]at ho;subst ho;obtain⟨a,b⟩:=gQ.mp hc;refine ps (Y3 h d a) _ ?_;unfold given;rw[if_pos a,if_pos b];exact aG.mpr rfl
  ·refine dm _ ?_;unfold on3 at ho;cases hc:(q.2.w==Str.ofString "take")&&lD m q.1 f.x with
   | false=>rw[hc,if_neg bX]at ho;cases ho
   | true =>
    rw[hc,if_pos rfl]at ho;obtain⟨j,p,rfl⟩:=az.mp ho;obtain⟨a,b⟩:=gQ.mp hc;refine ps (OL h d a) _ ?_;have c:=mf (by decide) (bu a)
    unfold given;rw[c,if_neg bX,if_pos b];exact az.mpr ⟨j,p,by lia⟩
end
noncomputable def Iq(cs:List Nat):aE:=⟨.gU false (cs.map fun(n:Nat)=>[.inl (n:Int)]),cs.map λ_=>.bl true⟩
theorem ON(cs:List Nat)(n:Nat):kY [.inl (n:Int)] (cs.map fun(n:Nat)=>[.inl (n:Int)])=cs.any λy=>y==n:=by
 unfold kY;rw[List.any_map]
 congr 1
 funext y
 show decide ([(Sum.inl (y:Int):bO)]=[.inl (n:Int)])=(y==n);by_cases e:y=n
 ·grind
 ·grind
theorem acV{cs:List Nat}{n:Nat}(a:n∈cs)(C:aE):ku true [C,Iq cs] (.int (n:Int)) (.ref 1)=some (.bl false):=by
 have e:ku true [C,Iq cs] (.int (n:Int)) (.ref 1)=some (.bl (!kY [.inl (n:Int)] (cs.map fun(n:Nat)=>[.inl (n:Int)]))):=rfl
 rw[e,ON,List.any_eq_true.mpr ⟨n,a,by simp⟩]
 rfl
section
variable {m:Md} {most:Nat} {cs:List Nat} {af:eJ}
abbrev KQ(P I R A a:PV)(b c d e f:Option PV)(h:List aE):dB:=⟨[some P,some I,some R,some A,some a,b,some (.ref 0),c,d,e,f],h⟩
theorem Tt{n:Nat}{q:Nat×bW}(a:m.as[n]?=some q)(l:List Nat):Gw n q.2 l=jo m n q.2 l:=by
 unfold Gw jo xY U4;rw[dq (show 0<=(n:Int) by lia),fu,a,Bool.true_and]
theorem Ir(k:Nat)(P I R A c:PV)(d g i:Option PV)(p:∀n∈cs,∃q l X,vx X 3 q.2/\(∀H,bf H R (iN n)=some (eN q))/\(∀H,bf H A (iN n)=some (nT l))/\(∀f∈Gw n q.2 l,kF f∈af.map (·.1))):∀(a acc:List Nat) (j:Option PV),(∀n∈a,n∈cs)->(acc++a).Nodup->(acc++a).length<4000000 ->
  ∃o,dX (aX 8) (FV (run txt (k+1))) (a.map iN) (KQ P I R A c d (some (.ref 1)) j g i [oY af,Iq acc])=some (.ok .nx,KQ P I R A c d (some (.ref 1)) o g i [oY af,Iq (acc++a)])
 | [],acc,j,_,_,_=>⟨j,by rw[dc];rfl⟩
 | n::a,acc,j,r,C,u=>by
  obtain⟨o,ih⟩:=Ir k P I R A c d g i p a (acc++[n]) (some (iN n)) (λb v=>r b (aM _ v)) (by grind) (by grind)
  refine⟨o,?_⟩;rw[cC]at ih;obtain⟨q,l,X,ok,w,x,B⟩:=p n (r n aO);have own:=Y1 k (H:=[oY af,Iq (acc++[n])]) rfl ok w l B;refine fC rfl ?_ ih;refine sq (s1:=KQ P I R A c d (some (.ref 1)) (some (iN n)) g i [oY af,Iq (acc++[n])]) ?_ (iF (nB (tB (b:=true) (clG (as:=[R,iN n,nT l,.ref 0]) (cA rfl (cA rfl (cA (b2 rfl rfl (x _)) (cA rfl rfl)))) rfl (by simp[ah,noRef]) own))) rfl)
  refine eB rfl (eB rfl (eB rfl ?_));show(BS (.ref 1) (iN n) (.bl true) _).map _=_;have e:∀t,BS (.ref 1) (iN n) (.bl true) ⟨t,[oY af,Iq acc]⟩=(if(acc.map fun(n:Nat)=>[(Sum.inl (n:Int):bO)]).length<gF then some ⟨t,[oY af,Iq acc].set 1 (oo false [.inl (n:Int)] (.bl true) (acc.map fun(n:Nat)=>[.inl (n:Int)]) (acc.map λ_=>.bl true))⟩else none):=λ_=>rfl
  rw[e,if_pos (show(acc.map fun(n:Nat)=>[(Sum.inl (n:Int):bO)]).length<gF by rw[aD];show acc.length<4000000;rw[bK]at u;lia)]
  unfold oo;rw[ON];have:(acc.any λy=>y==n)=false:=by
   grind
  rw[this,if_neg bX];show some (_,dB.mk _ [oY af,⟨_,_⟩])=_;unfold Iq;rw[bU,bU];rfl
theorem Kw(h:cB m most)(y:most<=20)(a:YO m cs)(T:acO m cs af):∀(i:Nat) (f:Ft) (d:Int),af[i]?=some (kF f,d)->f.n∈cs:=λi=>by
 induction i using Nat.strongRecOn with
 | ind i ih =>
  intro f d B;rcases T.why i (kF f) d B with⟨_,hf⟩ | ⟨j,g,e,fs,C,_,D,ho,hf⟩
  ·obtain⟨E,k,e⟩:=az.mp hf;cases OC e;rcases bB.mp k with z | z
   ·obtain⟨j,q,t,_,_,_,rfl⟩:=DB m.P 0 f z;exact a.zero
   ·obtain⟨n,u,z⟩:=dy.mp z;have v:=a.lt n u;obtain⟨q,H⟩:∃q,m.as[n]?=some q:=⟨_,b7 v⟩
    obtain⟨l,w⟩:∃l,m.vH[n]?=some l:=⟨_,b7 (by rw[lT h y];exact v)⟩
    rw[H,w]at z;have z:f∈jo m n q.2 l:=z;unfold jo at z;split at z
    ·obtain⟨b,p,z⟩:=dy.mp z;obtain⟨j,_,rfl⟩:=az.mp z;exact a.nx n u l w b p
    ·cases z
  ·unfold Dx at ho;obtain⟨x,I,J⟩:=bt ho;obtain⟨N,c,rfl⟩:=bE J;cases Dw I;have r:=ih j C x e D;unfold Kq at c;obtain⟨_,c⟩:=bP c;obtain⟨q,d5,L⟩:=bt c;obtain⟨l,M,rfl⟩:=bE L;obtain⟨E,k,e⟩:=az.mp hf;cases OC e;obtain⟨b,p,z⟩:=dy.mp k;obtain⟨o,_,rfl⟩:=az.mp z;exact a.nx x.n r l M b p
end
section
variable {m:Md} {most:Nat} {cs:List Nat} {af:eJ}
theorem U9(c:CT)(P I R A a:PV)(g:Option PV){f:Ft}{d:Int}{q:Nat×bW}(o:S4)(H:List aE)(u:H[0]?=some (oY af))(v:∀H,bf H R (iN f.n)=some (eN q)):∀(l:List Nat) (i:Option PV),(∀b∈l,∃p:Nat×bW,(∀H,bf H R (iN b)=some (eN p))/\((((p.1:Int)==(q.1:Int)) || !Txt.isdigit o.x)=true->kF (Ft.of b o)∈af.map (·.1))) ->
  ∃t,dX (aX 10) (FW c) (l.map iN) (KQ P I R A a (some (vV f d)) (some (.ref 1)) g (some (ig o)) i H)=some (.ok .nx,KQ P I R A a (some (vV f d)) (some (.ref 1)) g (some (ig o)) t H)
 | [],i,_=>⟨i,rfl⟩
 | b::l,i,w=>by
  obtain⟨t,e⟩:=U9 c P I R A a g o H u v l (some (iN b)) λB C=>w B (aM _ C)
  refine⟨t,?_⟩;obtain⟨p,D,E⟩:=w b aO;refine fC rfl ?_ e;obtain⟨s,j⟩:=nw (KQ P I R A a (some (vV f d)) (some (.ref 1)) g (some (ig o)) (some (iN b)) H);have k:Ev Q3 s ((p.1:Int)==(q.1:Int)) s:=by rw[j];exact bT (b2 (b2 (b2 rfl rfl (D _)) rfl rfl) (b2 (b2 rfl (b2 rfl rfl rfl) (v _)) rfl rfl) (lu _ _ _))
  have J:Ev QL s (!Txt.isdigit o.x) s:=by rw[j];exact nB (tB (eB (b2 rfl rfl rfl) rfl))
  have r:Ev (dk Q3 (aV true) QL) s (((p.1:Int)==(q.1:Int)) || !Txt.isdigit o.x) s:=by
   cases hc:(p.1:Int)==(q.1:Int)with
   | true=>rw[hc]at k;exact iT k rfl
   | false=>rw[hc]at k;exact iF k J
  have y:Ev (dk (dk Q3 (aV true) QL) (toB (op2 (ku true) (op2 eQ (kU .aq (aj (rd 10) (aV []))) (rd 9)) (rd 6))) (aV false)) s false s:=by
   cases hc:(((p.1:Int)==(q.1:Int)) || !Txt.isdigit o.x)with
   | false=>rw[hc]at r;exact iF r rfl
   | true =>
    rw[hc]at r;refine iT r ?_;rw[j];exact bT (b2 (x:=cP (kF (Ft.of b o))) (b2 (tU (cA rfl rfl) (by simp)) rfl rfl) rfl (OG (show 5<1000 by decide) u (E hc)))
  rw[j]at y;exact iF y rfl
def acW(R:PV)(af:eJ)(q:Nat×bW)(l:List Nat)(o:S4):Prop:=∀b∈l,∃p:Nat×bW,(∀H,bf H R (iN b)=some (eN p))/\((((p.1:Int)==(q.1:Int)) || !Txt.isdigit o.x)=true->kF (Ft.of b o)∈af.map (·.1))
theorem Va(c:CT)(P I R A b:PV)(g:Option PV){f:Ft}{d:Int}{q:Nat×bW}{l:List Nat}(H:List aE)(t:H[0]?=some (oY af))(u:∀H,bf H R (iN f.n)=some (eN q))(v:∀H,bf H A (iN f.n)=some (nT l)):∀(i:List S4) (j a:Option PV),(∀o∈i,acW R af q l o) ->
  ∃k p,dX (aX 9) (FX c) (i.map ig) (KQ P I R A b (some (vV f d)) (some (.ref 1)) g j a H)=some (.ok .nx,KQ P I R A b (some (vV f d)) (some (.ref 1)) g k p H)
 | [],j,a,_=>⟨j,a,rfl⟩
 | o::i,j,a,ho=>by
  obtain⟨r,w⟩:=U9 c P I R A b g o H t u l a (ho o aO);obtain⟨k,p,e⟩:=Va c P I R A b g H t u v i (some (ig o)) r λx y=>ho x (aM _ y)
  refine⟨k,p,?_⟩;exact fC rfl (fS (sV (b2 rfl (b2 rfl rfl rfl) (v _)) rfl) w) e
structure acY (k:Nat) (P I R A:PV) (cs:List Nat) (af:eJ) (f:Ft) (d:Int):Prop where
 n:f.n∈cs
 ex:∃(q:Nat×bW) (l:List Nat) (os:List S4),(∀H,bf H R (iN f.n)=some (eN q))/\(∀H,bf H A (iN f.n)=some (nT l))/\Gives (run txt (k+1) "_law_on" [vV f d,P,I,R] []) (.lst (os.map ig))/\∀o∈os,acW R af q l o
theorem OQ(k:Nat)(P I R A c:PV)(nr:ah [P,I,R]=true)(i:Option PV):∀(ts:eJ) (j a b:Option PV),(∀t∈ts,∃f,t.1=kF f/\acY k P I R A cs af f t.2) ->
  ∃o p v,dX (aX 5) (FY (run txt (k+1))) (ts.map toldP) (KQ P I R A c j (some (.ref 1)) i a b [oY af,Iq cs])=some (.ok .nx,KQ P I R A c o (some (.ref 1)) i p v [oY af,Iq cs])
 | [],j,a,b,_=>⟨j,a,b,rfl⟩
 | t::ts,j,a,b,ht=>by
  obtain⟨f,w,B,q,l,C,D,E,r,x⟩:=ht t aO;obtain⟨g,d⟩:=t;have w:=w;subst w;obtain⟨H,y,J⟩:=Va (run txt (k+1)) P I R A c i [oY af,Iq cs] rfl D E C a b x;obtain⟨o,p,v,e⟩:=OQ k P I R A c nr i ts (some (vV f d)) H y λu L=>ht u (aM _ L)
  refine⟨o,p,v,?_⟩;refine fC rfl ?_ e;have M:ah [vV f d,P,I,R]=true:=by
   show(noRef (vV f d)&&ah [P,I,R])=true;rw[nr];rfl
  exact sq (iF (bT (b2 (b2 rfl rfl rfl) rfl (acV B _))) rfl) (fS (sV (cb (as:=[vV f d,P,I,R]) (cA rfl (cA rfl (cA rfl (cA rfl rfl)))) rfl (by grind) r) rfl) J)
end
structure Rgt (k:Nat) (P I:PV) (R A F:PV) (ps ks:List Rk) (cs:List Nat) (af:eJ):Prop where
 acts:Gives (run txt (k+1) "acts" [P,I] []) R
 aik:Gives (run txt (k+1) "nexts" [P,I] []) A
 held:Gives (run txt (k+1) "held" [P,I] []) (.lst (af.map toldP))
 come:Gives (run txt (k+1) "come_to" [P,I] []) (.lst (cs.map iN))
 ixF:∀H,bf H P I=some F
 ixP:∀H,bf H F (.int 1)=some (.aq (ps.map bj))
 K:kz ks
 sub:∀q∈ps,q∈ks
 nd:(af.map (·.1)).Nodup
 few:af.length<4000000
 fst:∀f∈gy 0 ps,kF f∈af.map (·.1)
 own:∀n∈cs,∃(q:Nat×bW) (l:List Nat) (X:List Str),vx X 3 q.2/\(∀H,bf H R (iN n)=some (eN q))/\(∀H,bf H A (iN n)=some (nT l))/\(∀f∈Gw n q.2 l,kF f∈af.map (·.1))
 ask:∀t∈af,∃f,t.1=kF f/\acY k P I R A cs af f t.2
 cnd:cs.Nodup
 agD:cs.length<4000000
 nr:ah [P,I,R]=true
theorem AL{k:Nat}(hk:8<=k){P I R A F:PV}{ps ks:List Rk}{cs:List Nat}{af:eJ}(G:Rgt k P I R A F ps ks cs af):Gives (run txt (k+2) "_law_right" [P,I] []) (.bl true):=by
 obtain⟨N,Q,y,hc,m,i,K,sub,nd,T,o,own,c,X,Y,nr⟩:=G;have Z:ah [P,I]=true:=by
  have:(noRef P&&(noRef I&&(noRef R&&true)))=true:=nr;rw[aY,aY]at this;show(noRef P&&(noRef I&&true))=true;rw[this.1,this.2.1];rfl
 obtain⟨q,r⟩:=yb (run txt (k+1)) (some P) (some I) (some R) (some A) (some (.lst (af.map toldP))) none none none none af [] none (by grind) (λt ht=>let ⟨f,e,_⟩:=c t ht;⟨f,e⟩) (by grind)
 rw[f9]at r;obtain⟨B,u⟩:=Ir k P I R A (.lst (af.map toldP)) q none none own cs [] none (λn h=>h) (by grind) (by grind)
 rw[f9]at u;obtain⟨z5,z9,v,C⟩:=OQ k P I R A (.lst (af.map toldP)) nr B af q none none c;have D:=Tq k (by lia) (H:=[oY af]) rfl K sub o
 have E:∀p∈af.map toldP,∀J h,Ek (nY (eH (bnd Q0 (bD 0 1 (run txt (k+1) "_law_is_fact"))))) ⟨none::some p::J,h⟩ false:=λp hp J h=>by
  obtain⟨t,ht,rfl⟩:=az.mp hp;obtain⟨f,e,_⟩:=c t ht;obtain⟨g,d⟩:=t;have e:=e;subst e;obtain⟨j,rfl⟩:∃j,k=j+1:=⟨k-1,by lia⟩
  exact nB (tB (cb (cA rfl rfl) rfl (by simp[ah,noRef,vV]) (Gv j f d)))
 have L:∀H,gA H [.lst (af.map toldP)]=some (iN af.length):=λH=>by
  show some (PV.int ((af.map toldP).length:Nat))=_;rw[aD];rfl
 have lk:gA [oY af] [.ref 0]=some (iN af.length):=by
  show some (PV.int ((af.map (·.1)).length:Nat))=_;rw[aD];rfl
 have l:(af.map toldP).length<=4000000:=by grind
 obtain⟨PS,w⟩:=nw (PV.aq (ps.map bj));obtain⟨a,x⟩:=nw (af.map toldP);rw[<-w]at i D;rw[<-x]at y r u C E L l;have M:Ek (cY false [none,none] (gP (rd 4)) (lY (aX 1) (nY (eH (bnd Q0 (bD 0 1 (run txt (k+1) "_law_is_fact"))))) (rd 1))) (S0 [some P,some I,some R,some A,some (.lst a),none,none,none,none,none,none]) (.lst (a.filterMap λ_=>none)):=cQ (sV (p:=.lst a) rfl rfl) l λp hp=>KI (Jp:=[none,some p]) (h1:=[]) rfl (E p hp [] _)
 have e0:a.filterMap (λ_=>(none:Option PV))=[]:=by simp
 rw[e0]at M;rw[FZ];refine gV (h':=[oY af,Iq cs]) (KH:=[some P,some I,some R,some A,some (.lst a),z5,some (.ref 0),some (.ref 1),B,z9,v]) ?_ rfl;refine sq (aS (cb (as:=[P,I]) (cA rfl (cA rfl rfl)) rfl rfl N) rfl) ?_;refine sq (aS (cb (as:=[P,I]) (cA rfl (cA rfl rfl)) rfl rfl Q) rfl) ?_;refine sq (aS (cb (as:=[P,I]) (cA rfl (cA rfl rfl)) rfl rfl y) rfl) ?_;refine sq (iF (iF (s1:=S0 [some P,some I,some R,some A,some (.lst a),none,none,none,none,none,none]) (nB (tB (b:=true) rfl)) (bT (b:=false) (b2 M rfl rfl))) rfl) ?_;refine sq (s1:=KQ P I R A (.lst a) none none none none none [oY []]) rfl ?_;refine sq (fS (sV (p:=.lst a) rfl rfl) r) ?_;refine sq (iF (iF (bT (b:=false) (b2 (bV (cA rfl rfl) lk) (bV (cA rfl rfl) (L _)) ?_)) (nB (tB (b:=true) (clG (as:=[PS,.ref 0]) (cA (b2 (b2 rfl rfl (m _)) rfl (i _)) (cA rfl rfl)) rfl ?_ D)))) rfl) ?_
 ·show some (PV.bl (!((af.length:Int)==(af.length:Int))))=_;simp
 ·simp[ah,noRef]
 refine sq (s1:=KQ P I R A (.lst a) q (some (.ref 1)) none none none [oY af,Iq []]) rfl ?_;refine sq (fS (sV (p:=.lst (cs.map iN)) (cb (as:=[P,I]) (cA rfl (cA rfl rfl)) rfl (by grind) hc) rfl) u) ?_
 exact sq (fS (sV (p:=.lst a) rfl rfl) C) (rS rfl)
section
variable {m:Md} {most:Nat}
theorem Y4(h:cB m most)(u:most<=20):Gives (run txt 20 "_law_right" [m.prog,.int 1] []) (.bl true):=by
 obtain⟨cs,hc,j⟩:=YQ h u;obtain⟨C,H,T⟩:=YZ 15 (by decide) h u (hc 15 (by decide)) j
 have Y:C.length<=3000000:=by
  have:=gJ (C.map (·.1)) (Us m) T.nd λx I=>by
   obtain⟨t,ht,rfl⟩:=az.mp I;obtain⟨f,e,o⟩:=T.ok t ht;rw[e];exact Gs o
  rw[aD,OD]at this;have J:=AE h;have D:m.as.length<=126:=by lia
  have L:15*(3*((m.as.length+4)*3))<=17550:=by lia
  exact bC this (bC (Nat.mul_le_mul D L) (by decide))
 have M:cs.length<=126:=by
  have:=gJ cs (List.range m.as.length) j.nd λn a=>de.mpr (j.lt n a)
  rw[dY]at this;have:=AE h
  lia
 have k:∀{n:Nat},n<m.as.length->∃q,m.as[n]?=some q:=λa=>⟨_,b7 a⟩
 have w:∀{n:Nat},n<m.as.length->∃l,m.vH[n]?=some l:=λa=>⟨_,b7 (by rw[lT h u];exact a)⟩
 have N:noRef (RW m)=true:=by
  exact oV _ λp hp=>by
   obtain⟨q,_,rfl⟩:=az.mp hp;rfl
 refine AL (by decide) ⟨AD h (by lia) 18 (by decide),(iQ h u 17 (by decide)).1,H,hc 16 (by decide),vI,λ_=>rfl,h.ks,Tf,T.nd,by lia,λf r=>T.fst f (fI _ r),λn a=>?_,λt ht=>?_,j.nd,by lia,?_⟩
 ·obtain⟨q,c⟩:=k (j.lt n a);obtain⟨l,v⟩:=w (j.lt n a);refine⟨q,l,xV m.ks,Dr h (cK c),qZ c,Ik v,λf r=>T.fst f (dm _ (dy.mpr ⟨n,a,?_⟩))⟩
  rw[c,v];show f∈jo m n q.2 l;rw[<-Tt c];exact r
 ·obtain⟨f,r,ok⟩:=T.ok t ht;obtain⟨g,d⟩:=t;have r:=r;subst r;obtain⟨i,Q,Z⟩:=yh.mp ht;have y:C[i]?=some (kF f,d):=by grind
  have a:=Kw h u j T i f d y;obtain⟨q,c⟩:=k ok.n;obtain⟨l,v⟩:=w ok.n;refine⟨f,rfl,a,q,l,onL m q f,qZ c,Ik v,acT 17 (by decide) h c ok.g.2 d,λo ho b E=>?_⟩
  obtain⟨p,hp⟩:=k ((qw h u v).2 b E);refine⟨p,qZ hp,λR=>?_⟩
  obtain⟨fs,B,X⟩:=T.done i (kF f) d Q y;refine X _ ?_;unfold Dx at B;rw[Il,dM]at B;unfold Kq at B;rw[if_pos ok.g.2,c,v]at B;cases B;refine az.mpr ⟨Ft.of b o,dy.mpr ⟨b,E,?_⟩,rfl⟩;unfold wL;refine az.mpr ⟨o,gC.mpr ⟨Kv h (cK c) ho,?_⟩,rfl⟩;unfold oX;rw[hp];exact R
 ·show(noRef m.prog&&(noRef (.int 1)&&(noRef (RW m)&&true)))=true;rw[j9 h,N];rfl
end
def agF(r:Rs PV×List aE):Option PV:=match r with | (.ok p,h)=>k8 h p | _=>none
theorem gz{o:Option (Rs PV×List aE)}{q:PV}(h:o.bind agF=some q):Gives o q:=by
 obtain⟨⟨r,hp⟩,e1,a⟩:=bt h;cases r with
 | ok p=>exact⟨p,hp,e1,a⟩
 | ex _ _=>cases a
abbrev DG(F:PV)(a:bW):PV:=.nd (.kP "Course" ["function","listed","follow","sources"]) [F,.lst [eN (0,a)],.lst [nT []],.lst [stI []]]
theorem Gy(b:noRef F=true)(a:bW):noRef (DG F a)=true:=by
 show(noRef F&&(noRef (.lst [eN (0,a)])&&(noRef (.lst [nT []])&&(noRef (.lst [stI []])&&true))))=true;rw[b];rfl
structure acZ (fs:List Ft) (af:eJ):Prop where
 ok:∀t∈af,∃f∈fs,t.1=kF f
 nd:(af.map (·.1)).Nodup
 fst:∀f∈fs,kF f∈af.map (·.1)
theorem Iu(k:Nat){P I F r:PV}{a:bW}(u:noRef P=true)(v:noRef I=true)(w:noRef F=true)(nr:noRef r=true)(x:∀H,bf H P I=some F)(D:∀H,bf H F (.int 4)=some (.aq [r]))(E:Gives (run txt (k+3) "acts" [P,I] []) (.lst [eN (0,a)]))(J:Gives (run txt (k+3) "nexts" [P,I] []) (.lst [nT []]))(M:Gives (run txt (k+3) "source_holders" [P,r] []) (stI []))
  (fs:List Ft) (N:fs.length<=100) (Q:run txt (k+3) "held_at_first" [F] []=some (.ok (.ref 0),[⟨.lst,fs.map eG⟩])) (hc:Gives (run txt (k+3) "come_to" [P,I] []) (.lst [iN 0])) (y:Gives (run txt (k+3) "newly_lent" [DG F a,.int 0] []) (.lst [])) (R:∀f∈fs,Gives (run txt (k+3) "held_behind" [DG F a,eG f] []) (.lst [])):∃af,Gives (run txt (k+4) "held" [P,I] []) (.lst (af.map toldP))/\acZ fs af:=by
 classical
 obtain⟨b,ho⟩:∃b:List bO->Option (List (List bO)),∀g,b g=if g∈fs.map kF then some []else none:=⟨_,λ_=>rfl⟩
 obtain⟨af,T,X,t3,t4,t5,Y⟩:=ng b (fs.map kF) (fs.map kF) 8 (by rw[aD];show _<4000000;lia) (by rw[aD];show _<3000000;lia) (λg d=>⟨[],by grind⟩) (λg d=>d)
 refine⟨af,?_,λt ht=>?_,X,λf Z=>Y _ (az.mpr ⟨f,Z,rfl⟩)⟩
 ·have l:=Gy w a;have i:=xX (k+3) (AS:=[eN (0,a)]) (NX:=[nT []]) (L:=[r]) (c:=λr=>r) (G:=λ_=>stI []) u v (λq m=>by rw[aG.mp m];exact nr) x D (by simp) E J (λq m=>by rw[aG.mp m];exact M) (Gy w a) (S0 [some P,some I,none,none,none]) rfl (ts:=aj (rd 0) Q0) (cA rfl (cA rfl rfl))
  have i:Ev _ _ (DG F a) _:=i;have B:∀g j,b g=some j->(∀f∈j,f.length<1000)/\Gives (run txt (k+3) "held_behind" [DG F a,cP g] []) (.lst (j.map cP)):=λg j d=>by
   rw[ho]at d;obtain⟨h1,h2⟩:=bP d;obtain⟨f,o,rfl⟩:=az.mp h1;cases h2;exact⟨(λ_ z=>nomatch z),R f o⟩
  obtain⟨C,hC⟩:=nw (DG F a);rw[<-hC]at i l y B;have e:dX (aX 3) (oJ (run txt (k+3))) [iN 0] ⟨[some P,some I,some (.ref 0),none,some C],[⟨.lst,fs.map eG⟩]⟩=some (.ok .nx,⟨[some P,some I,some (.ref 0),some (iN 0),some C],[⟨.lst,fs.map eG++[]⟩]⟩):=fC rfl (dS (p:=.cf) (sx rfl rfl (cA (cb (as:=[C,.int 0]) (cA rfl (cA rfl rfl)) rfl (by simp[ah,l,noRef]) y) rfl) (xC rfl rfl (by rw[aD];simp;lia)))) rfl
  rw[dc]at e;exact Io k (cs:=[0]) u v l x i Q hc e (by lia) T B
 ·grind
section
variable {F:PV} {a:bW} {f:Ft}
theorem Y5(k:Nat)(d:f.g<0)(x:Str):Gives (run txt (k+1) "is_through" [DG F a,.int f.g,.str x] []) (.bl false):=by
 rw[lq];obtain⟨C,c⟩:=nw (DG F a);rw[<-c];have b:Ek (op2 Zi (rd 1) (kI 0)) (S0 [some C,some (.int f.g),some (.str x)]) (.bl (decide (f.g>=0))):=b2 rfl rfl (ge_int _ _ _);rw[iu (by lia)]at b
 exact gV (rS (anF b rfl)) rfl
theorem Kx(k:Nat)(v:noRef F=true)(q:f.n=0)(w:f.g<0)(y:a.k=Str.ofString ""):Gives (run txt (k+3) "held_behind" [DG F a,eG f] []) (.lst []):=by
 rw[km];have r:=Y5 (F:=F) (a:=a) (k+1) w a.k;have c:=Gy v a;have ps:Gives (run txt (k+2) "passed_on" [DG F a,eN (0,a),eG f] []) (.lst []):=by
  rw[mE];have b:Ek QH (S0 [some (DG F a),some (eN (0,a)),some (eG f)]) (a.k==Str.ofString ""):=bT (b2 (b2 rfl rfl rfl) rfl (dz _ _ _));rw[y,show(Str.ofString ""==Str.ofString "")=true by decide]at b
  exact gV (o9 (iT (iT b rfl) (rS rfl))) rfl
 have t:∀(d e i j m:Option PV) H,Ek Q5 ⟨[some (DG F a),some (eG f),d,e,i,j,m],H⟩ (.lst [eN (0,a)]):=λ_ _ _ _ _ _=>rfl
 have u:∀(d e i j m:Option PV) H,Ek QM ⟨[some (DG F a),some (eG f),d,e,i,j,m],H⟩ (.lst [nT []]):=λ_ _ _ _ _ _=>rfl
 have B:∀H,bf H (.lst [eN (0,a)]) (.int (f.n:Int))=some (eN (0,a)):=λH=>by rw[q];rfl
 have D:∀H,bf H (.lst [nT []]) (.int (f.n:Int))=some (nT []):=λH=>by rw[q];rfl
 obtain⟨C,E⟩:=nw (DG F a);rw[<-E]at r ps c t u ⊢;have I:Ev QV (S0 [some C,some (eG f),none,none,none,none,none]) .nx (S0 [some C,some (eG f),some (eN (0,a)),none,none,none,none]):=aS (b2 (t _ _ _ _ _ _) (b2 rfl rfl rfl) (B _)) rfl;have b:Ek (dk (toB (op2 KA Q7 QK)) (nY (eH (bnd Qm (bD 0 3 (run txt (k+2) "is_through"))))) (aV false)) ⟨[some C,some (eG f),some (eN (0,a)),some (.ref 0),none,none,none],[⟨.lst,[]⟩]⟩ (!(f.x==a.k)&&!false):=nD (bT (b2 (b2 rfl rfl rfl) (b2 rfl rfl rfl) (vv _ _ _))) (nB (tR (cb (cA rfl (cA (b2 rfl rfl rfl) (cA (b2 rfl rfl rfl) rfl))) rfl (by simp[ah,c,noRef]) r) rfl))
 obtain⟨o,p⟩:=nw ((if(!(f.x==a.k)&&!false)=true then [⟨f.x,f.l,f.g,f.s⟩]else []):List S4)
 have L:o.length<=1:=by grind
 have J:Ev (gj (zD "list" wb (rd 3) (aj (bnd (aj (rd 0) QU) (bD 0 3 (run txt (k+2) "passed_on"))) (aV [])))) ⟨[some C,some (eG f),some (eN (0,a)),some (.ref 0),none,none,none],[⟨.lst,o.map ig⟩]⟩ .nx ⟨[some C,some (eG f),some (eN (0,a)),some (.ref 0),none,none,none],[⟨.lst,o.map ig++[]⟩]⟩:=dS (sx rfl rfl (cA (cb (cA rfl (cA rfl (cA rfl rfl))) rfl (by simp[ah,c,noRef,eN,l9,eG]) ps) rfl) (xC rfl rfl (by grind)))
 refine⟨.ref 1,_,iJ (sq I (sq rfl (sq (by
  rw[p];cases hc:(!(f.x==a.k)&&!false)with
  | true =>
   rw[hc]at b;rw[if_pos rfl];exact iT b (dS (sx rfl rfl (cA (cE rfl rfl rfl rfl) rfl) (aC (ps:=[]) rfl (by simp))))
  | false =>
   rw[hc]at b;rw[if_neg bX];exact iF b rfl) (sq J (sq rfl (sq (fS (sV (b2 (u _ _ _ _ _ _) (b2 rfl rfl rfl) (D _)) rfl) rfl) (rS rfl))))))),?_⟩
 exact vf rfl rfl
theorem DH(k:Nat)(g:noRef F=true)(d:eK a=false):Gives (run txt (k+2) "newly_lent" [DG F a,.int 0] []) (.lst []):=by
 rw[ll];have b:=ka k (0,a);rw[show eK (0,a).2=false from d]at b
 have c:Ek Q5 (S0 [some (DG F a),some (.int 0),none,none,none]) (.lst [eN (0,a)]):=rfl;obtain⟨C,e⟩:=nw (DG F a);rw[<-e]at c ⊢;exact gV (sq (aS (b2 c rfl rfl) rfl) (o9 (iT (iT (nB (tR (cb (cA rfl rfl) rfl rfl b) rfl)) rfl) (rS rfl)))) rfl
theorem Y6(k:Nat){P I:PV}(i:f.n=0)(u:f.g<0)(j:eK a=false)(hw:(a.w==Str.ofString "take")=false)(c:Int):Gives (run txt (k+1) "_law_on" [vV f c,P,I,.lst [eN (0,a)]] []) (.lst ((Ku (0,a) f).map ig)):=by
 rw[HE];have b:∀H,bf H (.lst [eN (0,a)]) (iN f.n)=some (eN (0,a)):=λH=>by rw[i];rfl
 have m:(Ku (0,a) f).length<=1:=by unfold Ku;split<;>simp
 have o:Ts (0,a) f=[]:=by
  unfold Ts;rw[show eK (0,a).2=false from j]
  rfl
 generalize PV.lst [eN (0,a)]=R at b ⊢
 have p:Ev QB (S0 [some (vV f c),some P,some I,some R,none,none,none,none,none,none,none,none]) .nx (S0 [some (vV f c),some P,some I,some R,some (iN f.n),some (.str f.x),some (.int f.l),some (.int f.g),some (.int f.s),none,none,none]):=rfl;have r:Ev QP (S0 [some (vV f c),some P,some I,some R,some (iN f.n),some (.str f.x),some (.int f.l),some (.int f.g),some (.int f.s),none,none,none]) .nx (wM I f c P R (0,a) none none []):=aS (b2 rfl rfl (b _)) rfl;have t:Ek QC (wM I f c P R (0,a) none none []) (decide (f.g>=0)):=bT (b2 rfl rfl (ge_int _ _ _));rw[iu (by lia)]at t
 have d:=acQ (I:=I) (f:=f) (c:=c) (P:=P) (R:=R) (q:=(0,a)) none (Ku (0,a) f) (by lia)
 rw[o,dc]at d;have e:Ek Qi (wM I f c P R (0,a) (some (.ref 0)) none [⟨.lst,(Ku (0,a) f).map ig⟩]) (a.w==Str.ofString "take"):=bT (b2 (b2 rfl rfl rfl) rfl (dz _ _ _));rw[hw]at e;exact⟨.ref 0,_,iJ (sq p (sq r (sq (iF (iF t rfl) rfl) (sq (s1:=wM I f c P R (0,a) (some (.ref 0)) none [⟨.lst,[]⟩]) rfl (sq (acP none) (sq d (sq (iF (iF e rfl) rfl) (rS rfl)))))))),j7 (Ip _)⟩
end
section
variable {m:Md} {most:Nat}
theorem Y7(h:cB m most):Gives (run txt 20 "_law_right" [m.prog,.int 0] []) (.bl true):=by
 have i:=j9 h;have b:Gives (run txt 19 "acts" [m.prog,.int 0] []) (.lst [eN (0,vc)]):=gz (by kernel_rfl)
 have c:Gives (run txt 19 "nexts" [m.prog,.int 0] []) (.lst [nT []]):=gz (by kernel_rfl)
 have d:Gives (run txt 19 "come_to" [m.prog,.int 0] []) (.lst [iN 0]):=gz (by kernel_rfl)
 obtain⟨af,o,T⟩:=Iu 15 (I:=.int 0) (r:=.aq [.str "give",.str ""]) (a:=vc) i rfl Oq rfl (λ_=>rfl) (λ_=>rfl) (gz (by kernel_rfl)) (gz (by kernel_rfl)) (gz (by kernel_rfl)) [] (by simp) (by kernel_rfl) (gz (by kernel_rfl)) (DH 16 Oq (by decide)) (λ_ z=>nomatch z)
 have j:∀t∈af,False:=λt ht=>by
  obtain⟨f,g,_⟩:=T.ok t ht;cases g
 have e:af=[]:=List.eq_nil_iff_forall_not_mem.mpr j;refine AL (k:=18) (by decide) (R:=.lst [eN (0,vc)]) (A:=.lst [nT []]) (F:=m.F0) (ps:=[]) (ks:=[]) (cs:=[0]) (af:=af) ⟨b,c,o,d,λ_=>rfl,λ_=>rfl,⟨mR,(λ_ z=>nomatch z),by simp,(λ_ z=>nomatch z)⟩,(λ_ z=>nomatch z),T.nd,by grind,(λ_ z=>nomatch z),λn l=>?_,λt ht=>(j t ht).elim,by simp,by decide,?_⟩
 ·rw[aG]at l;subst l;exact⟨(0,vc),[],xV [],C9,λ_=>rfl,λ_=>rfl,λf g=>by cases g⟩
 ·show(noRef m.prog&&_)=true;rw[i];rfl
theorem agG(h:cB m most):kz m.hd/\(m.nm 0,m.d4)∈m.hd/\m.hd.length=3:=by
 have b:(m.pl/2).toNat=0\/(m.pl/2).toNat=1\/(m.pl/2).toNat=2:=by have:=h.pl;lia
 have g:∀q∈m.hd,q=(m.nm 0,m.d4)\/q=(m.nm 1,m.d5)\/q=(m.nm 2,.ow m.s1):=λq a=>by
  unfold Md.hd at a;rcases b with e | e | e<;>rw[e]at a<;>simp at a<;>grind
 refine⟨⟨?_,λq a=>?_,?_,λq a=>?_⟩,?_,?_⟩
 ·unfold Md.hd;rcases b with e | e | e<;>rw[e]
  ·exact qr m.C [2,0,1] (by decide)
  ·exact qr m.C [0,2,1] (by decide)
  ·exact qr m.C [0,1,2] (by decide)
 ·rcases g q a with rfl | rfl | rfl
  ·exact h.f4
  ·exact h.f5
  ·exact h.f1
 ·unfold Md.hd;rcases b with e | e | e<;>rw[e]<;>simp
 ·rcases g q a with rfl | rfl | rfl<;>exact N3 m.C _
 ·unfold Md.hd;rcases b with e | e | e<;>rw[e]<;>simp
 ·unfold Md.hd;rcases b with e | e | e<;>rw[e]<;>rfl
theorem oZ:∀(l:List Rk) (i:Nat),∀f∈gy i l,f.n=0/\f.g<0
 | [],_,f,hf=>nomatch hf
 | q::l,i,f,hf=>by
  rw[gy,bB]at hf;rcases hf with hf | hf
  ·unfold wK at hf;split at hf
   ·grind
   ·cases hf
  ·exact oZ l (i+1) f hf
theorem Iv(K:kz ks):∀(l:List Rk) (i:Nat),(∀q∈l,q∈ks)->(gy i l).length<=3*l.length
 | [],_,_=>by simp[gy]
 | q::l,i,a=>by
  rw[gy,bK,aR];have:=vK K (i:=i) (a q aO);have:=Iv K l (i+1) λr hr=>a r (aM _ hr)
  lia
theorem Y8(h:cB m most):Gives (run txt 20 "_law_right" [m.prog,.int 2] []) (.bl true):=by
 have X:=j9 h;have u:noRef m.F2=true:=UW;obtain⟨K,h0,B⟩:=agG h;obtain⟨a,C⟩:=nw (Zr (m.nm 0) m.d4);have ak:a.k=Str.ofString "":=by rw[C];rfl
 have aL:eK a=false:=by rw[C];show(Str.ofString "lend"==Str.ofString "give" || (Str.ofString "sole"==Str.ofString "give" || false))=false;decide
 have aw:(a.w==Str.ofString "take")=false:=by rw[C];show(Str.ofString "give"==Str.ofString "take")=false;decide
 have fn:oM m.F2 m.hd:=by
  have:=GL (m.fn 2) (.aq [.str (hw m.b4),enc m.t4,m.sT m.Tb]) (.aq [.aq [.str "give",.str (m.nm 0)]]) m.hd [] (by grind) (by rw[dc];exact K.nd)
  rwa [dc]at this
 have Y:oS m.hd 1 (.aq [.str "give",.str (m.nm 0)]) [a]:=by rw[C];exact Dc K 1 h0
 have J:=Y.ok a (by simp)
 have c:∀k,12<=k->Gives (run txt (k+1) "acts" [m.prog,.int 2] []) (.lst (qo 0 [[a]])):=λk hk=>NT (L:=[(.aq [.str "give",.str (m.nm 0)],[a])]) k (λ_=>rfl) rfl u (λq Z=>by
  rw[aG]at Z;subst Z;exact Y.made m.F2 k fn u hk) (by simp)
 have e1:qo 0 [[a]]=[eN (0,a)]:=rfl;have nx:∀k,12<=k->Gives (run txt (k+2) "nexts" [m.prog,.int 2] []) (.lst [nT []]):=λk hk=>(HQ (k+1) (nx:=λ_=>[]) (L:=[[a]]) (fs:=[m.F0,m.F1,m.F2]) (I:=2) (nm:=m.fn 2) (res:=.aq [.str (hw m.b4),enc m.t4,m.sT m.Tb]) (rows:=.aq [.aq [.str "give",.str (m.nm 0)]]) (R1:=m.hd) (R2:=[]) rfl rfl (c k hk) (λj hj=>by
  have hj:j<1:=hj;obtain rfl:j=0:=by lia
  refine⟨?_,by simp,λ_ z=>nomatch z⟩
  rw[mz];exact gz (by kernel_rfl)) (show 1<=40000 by decide)).1
 have p:∀k,12<=k->Gives (run txt (k+3) "come_to" [m.prog,.int 2] []) (.lst [iN 0]):=λk hk=>by
  have D:=nx k hk;rw[qO];obtain⟨af,ns,b1,E,M,v,_,_,a7⟩:=vg (ls:=[[]]) (N:=1) ⟨rfl,λl B=>by rw[aG]at B;subst B;exact⟨by simp,λ_ z=>nomatch z⟩,by decide,by decide⟩
  obtain rfl:ns=[0]:=by
   match ns,M,v,a7 with
   | [],_,_,z=>cases z
   | [x],_,v,_=>have:=v x (by simp);rw[show x=0 by lia]
   | x::y::l,M,v,_ =>
    have h1:=v x (by simp)
    have h2:=v y (by simp)
    simp at M
    lia
  obtain⟨t,rfl⟩:∃t,af=[t]:=by
   match af,E with
   | [t],_=>exact⟨t,rfl⟩
   | _::_::_,E=>simp at E
  obtain⟨g,d⟩:=t;obtain rfl:g=kN 0:=List.cons.inj E |>.1;have hc:Ek (cY false [none,none] (gP (bnd (aj (bnd Qj (bD 0 2 (run txt (k+2) "nexts"))) (aV [])) (bD 0 1 (run txt (k+2) "arrivals")))) (kx (aX 1) Q4)) (S0 [some m.prog,some (.int 2)]) (.lst [iN 0]):=cM (l:=[(kN 0,d)]) (e:=toldP) (G:=λ_=>iN 0) (sV (cb (cA (cb (cA rfl (cA rfl rfl)) rfl rfl D) rfl) rfl rfl (b1 k)) rfl) (by simp) λt ht=>by
   rw[aG]at ht;subst ht;exact U.e1 rfl (b2 rfl rfl rfl)
  exact gV (rS (bV (cA hc rfl) (by kernel_rfl))) rfl
 obtain⟨x2,x3,x4,fh⟩:=vL 17 (by decide) K fn u m.hd 0 [] none none none (λ_ z=>z) (by rw[B];decide) (by rw[B];decide)
 rw[f9]at fh;have Q:run txt 18 "held_at_first" [m.F2] []=some (.ok (.ref 0),[⟨.lst,(gy 0 m.hd).map eG⟩]):=by
  rw[jc];exact iJ (sq rfl (sq (fS (sG (eV (b2 rfl rfl rfl) rfl)) fh) (rS rfl)))
 have h9:=Iv K m.hd 0 λ_ z=>z
 obtain⟨af,hh,T⟩:=Iu 15 (P:=m.prog) (I:=.int 2) (F:=m.F2) (r:=.aq [.str "give",.str (m.nm 0)]) (a:=a) X rfl u rfl (λ_=>rfl) (λ_=>rfl) (c 17 (by decide)) (nx 16 (by decide)) (gz (by kernel_rfl)) (gy 0 m.hd) (by lia) Q (p 15 (by decide)) (DH 16 u aL) (λf i=>Kx 15 u (oZ _ _ f i).1 (oZ _ _ f i).2 ak)
 have tle:af.length<=(gy 0 m.hd).length:=by
  have:=gJ (af.map (·.1)) ((gy 0 m.hd).map kF) T.nd λx hx=>by
   obtain⟨t,ht,rfl⟩:=az.mp hx;obtain⟨f,i,e⟩:=T.ok t ht;rw[e];exact az.mpr ⟨f,i,rfl⟩
  rwa [aD,aD]at this
 refine AL (k:=18) (by decide) (R:=.lst [eN (0,a)]) (A:=.lst [nT []]) (F:=m.F2) (ps:=m.hd) (ks:=m.hd) (cs:=[0]) (af:=af) ⟨c 18 (by decide),nx 17 (by decide),hh,p 16 (by decide),λ_=>rfl,λ_=>rfl,K,(λ_ z=>z),T.nd,by lia,T.fst,λn D=>?_,λt ht=>?_,by simp,by decide,?_⟩
 ·rw[aG]at D;subst D;refine⟨(0,a),[],xV m.hd,J,λ_=>rfl,λ_=>rfl,λf i=>?_⟩
  unfold Gw at i;split at i<;>cases i
 ·obtain⟨f,i,e⟩:=T.ok t ht;obtain⟨H,g0⟩:=oZ _ _ f i;refine⟨f,e,by rw[H];simp,(0,a),[],Ku (0,a) f,λ_=>by rw[H];rfl,λ_=>by rw[H];rfl,Y6 18 H g0 aL aw t.2,λo _ b hb=>by cases hb⟩
 ·show(noRef m.prog&&_)=true;rw[X];rfl
end
noncomputable abbrev wds:List Str:=["put","set","copy","move","lend","lend","lend","lend","lend","lend","lend","call"]
noncomputable abbrev ac0:List Str:=["call","call","if","if","go","say","give"]
def OR(a:List Int)(_:a.length<=63):Yes (run txt 21 "law" [JH a] []):=by
 obtain⟨m,hp,ok⟩:=Kl 16 (by decide) a 12 (by decide) (W:=wds++ac0) (by decide +kernel)
 have b:=Y4 ok (by decide)
 have c:=Y8 ok;have d:=Y7 ok;have g:=j9 ok;obtain⟨P,f⟩:=nw m.prog;obtain⟨S,hS⟩:=nw (JH a);have hp:Gives (run txt 20 "_law_program" [S,.int 12,.lst ((wds++ac0).map .str)] []) P:=by rw[hS,f];exact hp
 rw[<-f]at b c d g;rw[<-hS];have e:run txt 21 "law" [S] []=some (.ok (.bl true),[]):=by
  rw[SF];refine iJ (KH:=[some S,some (.lst (wds.map .str)),some P]) ?_;refine sq rfl ?_;refine sq (aS (cb (cA rfl (cA rfl (cA (b2 rfl rfl (by rw[bU];exact aL (by simp))) rfl))) rfl rfl hp) rfl) ?_
  exact rS (anT (cb (as:=[P,.int 1]) (cA rfl (cA rfl rfl)) rfl rfl b) rfl (anT (cb (as:=[P,.int 2]) (cA rfl (cA rfl rfl)) rfl rfl c) rfl (cb (as:=[P,.int 0]) (cA rfl (cA rfl rfl)) rfl rfl d)))
 exact⟨_,e⟩
end b9
open PySem PySem.W PyProof.Rows PySem.Calls
theorem PySem.Challenge.cw_lendrule_k31_all_that_is_held_is_told_holds : PySem.Challenge.rw_lendrule_k31_all_that_is_held_is_told.Holds := by
 exact b9.fin λd a b=>L2.U.Nw (P:=b9.txt) (N:=21) (st:=b9.aci) (x:="_law_script") (l:=PySem.Challenge.rw_lendrule_k31_all_that_is_held_is_told) (by kernel_rfl) (by kernel_rfl) rfl a b ⟨rfl,by decide,by decide⟩ (by kernel_rfl) (λw h Y=>Y) b9.OR
end
