import PyProof.Rows.All
import Wide.All
import OpenK.AllK
import Wide.FinOn
import Lean
import PyProof.EqAt
import PyProof.EqKinds
import PyProof.TupleCall
import PyProof.Rows.SeqMore
import PyProof.MeetsStr2
import PyProof.CompUse
import PyProof.ListTruth
import PyProof.ZipIter
import PyProof.EnumIter
import KE.KRevSl
import PyProof.AutoSeq1
import KE.KDictOf
import PyProof.EnumFor
import PyProof.EnumMake
import PyProof.TupleKey
import PyProof.DictRoadsH
import PyProof.DictIter
import PyProof.DictWalks
import PyProof.NeKinds
import KE.KSortTup
import PyProof.Rows.SortStr
import PyProof.Rows.StrInSeq
import PyProof.ListRange
import PyProof.TupleOfSeq
import PyProof.Rows.SetFrom
import PyProof.SetRoads
import PySem.Challenge.RW_turnsame_k12_canonical_ids
noncomputable section
abbrev Fg := PySem.W.Frag
abbrev VSP := PySem.Value → PySem.Shared → Prop
abbrev AOs := List (PySem.Addr × PySem.Obj)
abbrev SOV := PySem.Str → Option PySem.Value
abbrev PDs := List PySem.PyData
abbrev wB := @PySem.wpAny_bind
abbrev wP := @PySem.wpAny_pure
abbrev hpS := @PySem.Heap.get?_push_of_some
theorem lMp {α β:Type} {f:α→β} {l:List α}:(l.map f).length=l.length:=List.length_map ..
theorem gES {α:Type} {l:List α} {i:Nat} {a:α}:l[i]?=some a↔∃ h:i<l.length,l[i]=a:=List.getElem?_eq_some_iff
theorem gEE {α:Type} {l:List α} {i:Nat} (h:i<l.length):l[i]?=some l[i]:=List.getElem?_eq_getElem h
theorem gEM {α β:Type} {f:α→β} {l:List α} {i:Nat}:(l.map f)[i]?=Option.map f l[i]?:=List.getElem?_map ..
theorem mGE {α:Type} {l:List α} {i:Nat} {a:α} (h:l[i]?=some a):a∈l:=List.mem_of_getElem? h
theorem mCS {α:Type} {a:α} {l:List α}:a∈a::l:=List.mem_cons_self
theorem mCM {α:Type} (y:α) {a:α} {l:List α} (h:a∈l):a∈y::l:=List.mem_cons_of_mem y h
theorem mAp {α:Type} {a:α} {s t:List α}:a∈s++t↔a∈s∨a∈t:=List.mem_append
theorem mSg {α:Type} {a b:α}:a∈[b]↔a=b:=List.mem_singleton
theorem oMS {α β:Type} {f:α→β} {x:Option α} {b:β}:x.map f=some b↔∃ a,x=some a∧f a=b:=Option.map_eq_some_iff
theorem nMN {α:Type} {a:α}:a∉([]:List α):=List.not_mem_nil
theorem tAO {α:Type} {l:List α} {i:Nat}:l.take (i+1)=l.take i++l[i]?.toList:=List.take_add_one
theorem lAp {α:Type} {l m:List α}:(l++m).length=l.length+m.length:=List.length_append ..
theorem lTk {α:Type} {i:Nat} {l:List α}:(l.take i).length=min i l.length:=List.length_take ..
set_option compiler.extract_closed false
set_option Elab.async false
set_option linter.all false
set_option maxRecDepth 100000
namespace L2
open PySem PySem.Spec PyProof.Rows
theorem _root_.ef:0≤PySem.sizeLine:=by decide
theorem _root_.eW:1≤PySem.sizeLine:=by decide
theorem _root_.gu:2≤PySem.sizeLine:=by decide
theorem _root_.ee:3≤PySem.sizeLine:=by decide
theorem _root_.Bf:4≤PySem.sizeLine:=by decide
theorem _root_.Be:5≤PySem.sizeLine:=by decide
theorem _root_.DX:6≤PySem.sizeLine:=by decide
theorem _root_.B4:7≤PySem.sizeLine:=by decide
theorem _root_.DW:8≤PySem.sizeLine:=by decide
def cG (s:Stmt):Arguments:=match s with
  | .FunctionDef _ a _ _ _ _ _ _ _ _=>a
  | _=>{posonlyargs:=[],args:=[],vararg:=none,kwonlyargs:=[],kw_defaults:=[],kwarg:=none,defaults:=[]}
def aW (s:Stmt):List Stmt:=match s with
  | .FunctionDef _ _ b _ _ _ _ _ _ _=>b
  | _=>[]
def a7 (s:Stmt):Scope:=match s with
  | .FunctionDef _ _ _ _ _ _ sc _ _ _=>sc
  | _=>{kind:=.function,names:=[],isGenerator:=false,isCoroutine:=false}
end L2
namespace K12
open PySem L2
def top (i:Nat):Stmt:=PySem.Challenge.pw_turnsame_k12_canonical_ids.main.body.getD i (.Pass ⟨0,0,0,0⟩)
def FT (l:List Value):Obj:={cls:=.type "tuple",data:=.seq l.toArray}
def FC (l:List Value):Obj:={cls:=.type "code",data:=.fields l.toArray}
def Fe (x:Str) (t:Nat) (v:Value):Str×Nat×Value:=(x,t,v)
def FD (P:Params) (l:List (Str×Nat×Value)) (ep:Nat):Obj:={cls:=.type "dict",data:=.dict (l.map fun x=>(⟨PyData.keyHash P x.1,.str x.1 x.2.1,x.2.2⟩:DictEntry)).toArray ep}
abbrev Row:=Str×Nat×Addr×List (Str×Nat)
def vD (e:Row):Str×Nat×Value:=Fe e.1 e.2.1 (.ref e.2.2.1)
def M0:Value:=.str "turnsame.cores" 256
def M1:Value:=.str "law_turnsame_k12_canonical_ids" 352
def FF (x:Str) (i:Nat) (m:Value) (c:Nat):Obj:={cls:=.type "function",data:=.func {name:=x,qualname:=x,params:=cG (top i),body:=.stmts (aW (top i)),scope:=a7 (top i),globals:=3,closure:=[],defaults:=.none,kwdefaults:=.none,pyModule:=m,code:=.ref c}}
def FR (x:Str) (i:Nat) (m:Value) (t l g a e:Nat) (b:Bool):Fg :=
  [(a+(if b=true then 5 else 3),FC ([.str x t,.str x (t+1),.str "/claim/cut.py" (t+2),.int l 0,.int g 0,.int 0 0,.int 0 0,.int 3 0,.ref a,.bool true,.int 181 0,.ref (a+1),.none]++(if b=true then [.ref (a+2),.ref (a+3),.ref (a+4)] else [.none,.none,.ref (a+2)])++[.int e 0,.int l 0,.str "/claim/cut.py" (e+1)])),
   (a+(if b=true then 6 else 4),FF x i m (a+(if b=true then 5 else 3)))]
def SL:List Row:=[("number",187,16,[("number",188)]),("name",190,17,[("meant",191)]),("let",193,18,[("bound",194),("one",195),("one",196)]),("var",198,19,[("bound",199),("one",200),("one",201)]),("set",203,20,[("meant",204),("one",205)]),("do",207,21,[("many",208)]),("if",210,22,[("one",211),("one",212),("one",213)]),("while",215,23,[("one",216),("one",217)]),("each",219,24,[("bound",220),("one",221),("one",222)]),("say",224,25,[("one",225)]),("fault",227,26,[("word",228)]),("op",230,27,[("op",231),("many",232)]),("new",234,28,[("place",235),("many",236)]),("get",238,29,[("place",239),("place",240),("one",241)]),("fun",243,30,[("bounds",244),("one",245)]),("apply",247,31,[("one",248),("many",249)]),("call",251,32,[("place",252),("many",253)])]
def KF:Params→Fg:=fun P=>[(3,FD P [Fe "__name__" 165 (.str "law_turnsame_k12_canonical_ids" 352),Fe "__doc__" 166 (.none),Fe "__package__" 167 (.none),Fe "__loader__" 168 (.builtin "__main__.__loader__#opaque"),Fe "__spec__" 169 (.none),Fe "__annotations__" 170 (.ref 6),Fe "__builtins__" 171 (.ref 4),Fe "__file__" 173 (.str "/claim/cut.py" 172),Fe "__cached__" 174 (.none),Fe "SLOTS" 255 (.ref 15),Fe "children_of" 267 (.ref 39),Fe "with_children" 279 (.ref 46),Fe "bound_by" 286 (.ref 53),Fe "with_ids" 298 (.ref 60),Fe "taken_off" 307 (.ref 67),Fe "rebuilt" 316 (.ref 74),Fe "scoped_children" 322 (.ref 79),Fe "with_entries" 334 (.ref 86),Fe "canon" 351 (.ref 93),Fe "_law_draw" 366 (.ref 100),Fe "_law_pick" 374 (.ref 107),Fe "_law_name" 382 (.ref 114),Fe "_law_unlike" 394 (.ref 121),Fe "_law_form" 400 (.ref 126),Fe "_law_heads" 409 (.ref 133),Fe "_law_meant" 415 (.ref 138),Fe "_law_choices" 426 (.ref 145),Fe "_law_lay" 436 (.ref 152),Fe "_law_tell" 445 (.ref 159),Fe "_law_seen" 451 (.ref 164),Fe "_law_bind" 461 (.ref 171),Fe "_law_expr" 467 (.ref 176),Fe "_law_number" 475 (.ref 183),Fe "_law_inner" 488 (.ref 190),Fe "_law_some" 502 (.ref 197),Fe "_law_bound" 516 (.ref 204),Fe "_law_named" 533 (.ref 211),Fe "_law_record" 547 (.ref 218),Fe "_law_plain" 562 (.ref 225),Fe "_law_fun" 568 (.ref 230),Fe "_law_fill" 574 (.ref 235),Fe "_law_made" 580 (.ref 240),Fe "_law_parts" 589 (.ref 247),Fe "_law_bound_ids" 596 (.ref 254),Fe "_law_met" 608 (.ref 261),Fe "_law_hides" 614 (.ref 266),Fe "_law_turned" 620 (.ref 271),Fe "_law_all_funs" 629 (.ref 278),Fe "law" 635 (.ref 283)] 49),(15,FD P (SL.map vD) 17)]++SL.map (fun e=>(e.2.2.1,FT (e.2.2.2.map fun s=>.str s.1 s.2)))++(
  FR "children_of" 2 M0 258 3 1 33 265 true ++
  FR "with_children" 3 M0 268 11 2 40 277 true ++
  FR "bound_by" 4 M0 280 24 1 47 284 true ++
  FR "with_ids" 5 M0 287 28 3 54 296 true ++
  FR "taken_off" 6 M0 299 40 2 61 305 true ++
  FR "rebuilt" 7 M0 308 44 1 68 314 true ++
  FR "scoped_children" 8 M0 317 49 3 75 320 false ++
  FR "with_entries" 9 M0 323 53 3 80 332 true ++
  FR "canon" 10 M0 335 60 1 87 349 true ++
  FR "_law_draw" 12 M1 354 74 3 94 364 true ++
  FR "_law_pick" 13 M1 367 84 2 101 372 true ++
  FR "_law_name" 14 M1 375 87 1 108 380 true ++
  FR "_law_unlike" 15 M1 383 90 3 115 392 true ++
  FR "_law_form" 16 M1 395 97 3 122 398 false ++
  FR "_law_heads" 17 M1 401 112 1 127 407 true ++
  FR "_law_meant" 18 M1 410 116 4 134 413 false ++
  FR "_law_choices" 19 M1 416 120 2 139 424 true ++
  FR "_law_lay" 20 M1 427 130 2 146 434 true ++
  FR "_law_tell" 21 M1 437 135 3 153 443 true ++
  FR "_law_seen" 22 M1 446 137 3 160 449 false ++
  FR "_law_bind" 23 M1 452 145 3 165 459 true ++
  FR "_law_expr" 24 M1 462 150 4 172 465 false ++
  FR "_law_number" 25 M1 468 159 1 177 473 true ++
  FR "_law_inner" 26 M1 476 163 4 184 486 true ++
  FR "_law_some" 27 M1 489 182 6 191 500 true ++
  FR "_law_bound" 28 M1 503 187 4 198 514 true ++
  FR "_law_named" 29 M1 517 195 5 205 531 true ++
  FR "_law_record" 30 M1 534 214 4 212 545 true ++
  FR "_law_plain" 31 M1 548 227 5 219 560 true ++
  FR "_law_fun" 32 M1 563 239 5 226 566 false ++
  FR "_law_fill" 33 M1 569 253 2 231 572 false ++
  FR "_law_made" 34 M1 575 275 1 236 578 false ++
  FR "_law_parts" 35 M1 581 292 1 241 587 true ++
  FR "_law_bound_ids" 36 M1 590 300 1 248 594 true ++
  FR "_law_met" 37 M1 597 306 3 255 606 true ++
  FR "_law_hides" 38 M1 609 316 2 262 612 false ++
  FR "_law_turned" 39 M1 615 326 2 267 618 false ++
  FR "_law_all_funs" 40 M1 621 335 1 272 627 true ++
  FR "law" 41 M1 630 342 1 279 633 false)
def KA:List Addr:=[3,15,16,17,18,19,20,21,22,23,24,25,26,27,28,29,30,31,32,38,39,45,46,52,53,59,60,66,67,73,74,78,79,85,86,92,93,99,100,106,107,113,114,120,121,125,126,132,133,137,138,144,145,151,152,158,159,163,164,170,171,175,176,182,183,189,190,196,197,203,204,210,211,217,218,224,225,229,230,234,235,239,240,246,247,253,254,260,261,265,266,270,271,277,278,282,283]
def QV:Program:=PySem.W.view PySem.Challenge.pw_turnsame_k12_canonical_ids [2,3,4,5,6,7,8,9,10,12,13,14,15,16,17,18,19,20,21,22,23,24,25,26,27,28,29,30,31,32,33,34,35,36,37,38,39,40,41]
def HK:PySem.W.Hook:=PySem.W.kHook KF KA (fun _=>by kernel_rfl)
end K12
section
open PySem PySem.W PyProof.Rows
set_option maxRecDepth 100000 in
set_option maxHeartbeats 0 in
theorem K12.preH (hc:∀ d:DefRec,d.name=Str.ofString "law"→d.params.defaults=[]→WalkO K12.QV [Str.ofString "SLOTS"] (XL K12.QV []) (Hook.says K12.HK) (OpenRow.toRowW (OpenLaw.row PySem.Challenge.rw_turnsame_k12_canonical_ids)) d [] (fun f vs=>PySem.call f vs)):PySem.Challenge.rw_turnsame_k12_canonical_ids.Holds:=by
 w_on;o_law
 refine holds_open (q:=K12.QV) (loose:=[Str.ofString "SLOTS"]) (Xt:=fun s=>xlAt K12.QV [] s&&recOk (RowW.records (OpenRow.toRowW (OpenLaw.row PySem.Challenge.rw_turnsame_k12_canonical_ids))) s) (XP:=XL K12.QV []) (Yf:=Hook.obs K12.HK) (Ya:=Hook.val K12.HK) (YP:=Hook.says K12.HK) (N:=3220) ?hl (Hook.of K12.HK) (Hook.keeps K12.HK) (fun s e=>xl_of s (Bool.and_eq_true_iff.mp e).1) XL.keeps (by rfl) (by rfl) (by rfl) (fun s e=>recFacts_of (Bool.and_eq_true_iff.mp e).2) (by rfl) (by first | assumption | decide +kernel) (by decide +kernel) ⟨rfl,rfl,rfl,rfl,rfl,by decide +kernel⟩ ?hw ?hc
 case hl=>exact LeftO.of_split "special-get-raises" (fun w=>by kernel_rfl)
 case hw=>w_witness2
 exact hc _ rfl rfl
end
namespace L2
open PySem PySem.Spec PyProof.Rows
abbrev Key:=Sum Int Str
def iY:Key→Value→Bool
  | .inl k,v=>Value.isInt k v
  | .inr x,v=>Value.isStrOf x v
def BW (w:World):Key→Int
  | .inl k=>hashInt k
  | .inr x=>hashStr w x
theorem bB:∀ {k:Key} {v:Value},iY k v=true→(∃ i t,k=Sum.inl i∧v=Value.int i t)∨(∃ x t,k=Sum.inr x∧v=Value.str x t)
 | .inl i,v,h=>by
  obtain⟨t,e⟩:=Value.isInt_shape (k:=i) (v:=v) h;exact .inl ⟨i,t,rfl,e⟩
 | .inr x,v,h=>by
  obtain⟨t,e⟩:=Value.isStrOf_shape (x:=x) (v:=v) h;exact .inr ⟨x,t,rfl,e⟩
theorem nY (i:Int) (t:Tok):iY (.inl i) (.int i t)=true:=by simp[iY,Value.isInt]
theorem nX (x:Str) (t:Tok):iY (.inr x) (.str x t)=true:=by simp[iY,Value.isStrOf]
theorem wm (a b:Int):decide ((Sum.inl a:Key)=Sum.inl b)=(a==b):=by
 by_cases e:a=b
 · subst e;simp
 · have h:¬ (Sum.inl a:Key)=Sum.inl b:=fun q=>e (Sum.inl.inj q);rw[decide_eq_false h];exact (beq_eq_false_iff_ne.mpr e).symm
theorem wg (a b:Str):decide ((Sum.inr a:Key)=Sum.inr b)=decide (a=b):=by
 by_cases e:a=b
 · subst e;simp
 · have h:¬ (Sum.inr a:Key)=Sum.inr b:=fun q=>e (Sum.inr.inj q);rw[decide_eq_false h,decide_eq_false e]
theorem wk (a:Int) (b:Str):decide ((Sum.inl a:Key)=Sum.inr b)=false:=decide_eq_false (fun q=>nomatch q)
theorem wj (a:Str) (b:Int):decide ((Sum.inr a:Key)=Sum.inl b)=false:=decide_eq_false (fun q=>nomatch q)
def ax (prog:Program) (w:World):PySem.KeyKind prog w Key where
  is:=iY
  hash:=BW w
  inj:=fun v a b ha hb=>by
    rcases bB ha with ⟨i,t,rfl,rfl⟩ | ⟨x,t,rfl,rfl⟩
    · rcases bB hb with ⟨j,u,rfl,e⟩ | ⟨y,u,rfl,e⟩
      · injection e with e1 _;rw[e1]
      · exact nomatch e
    · rcases bB hb with ⟨j,u,rfl,e⟩ | ⟨y,u,rfl,e⟩
      · exact nomatch e
      · injection e with e1 _;rw[e1]
  byValue:=fun k v h=>by
    rcases bB h with ⟨i,t,rfl,rfl⟩ | ⟨x,t,rfl,rfl⟩ <;> rfl
  pyHash:=fun hv h=>by
    rcases bB hv with ⟨i,t,rfl,rfl⟩ | ⟨x,t,rfl,rfl⟩
    · exact wpAny_pyHash_int h
    · exact wpAny_pyHash_str h
  eqBool:=fun hu hv h=>by
    rcases bB hu with ⟨i,t,rfl,rfl⟩ | ⟨x,t,rfl,rfl⟩
    · rcases bB hv with ⟨j,u,rfl,rfl⟩ | ⟨y,u,rfl,rfl⟩
      · rw[wm] at h;exact wpAny_eqBool_int h
      · rw[wk] at h;exact SeqAt.EqAt.int_str i t y u _ _ _ _ h
    · rcases bB hv with ⟨j,u,rfl,rfl⟩ | ⟨y,u,rfl,rfl⟩
      · rw[wj] at h;exact SeqAt.EqAt.str_int x t j u _ _ _ _ h
      · rw[wg] at h;exact wpAny_eqBool_str h
  «strs»:=fun k x t v h=>by
    rcases bB h with ⟨i,u,rfl,e⟩ | ⟨y,u,rfl,e⟩
    · exact nomatch e
    · injection e with e1 _
      subst e1;cases v <;> rfl
theorem kF (prog:Program) (w:World) (i:Int) (t:Tok):(ax prog w).is (.inl i) (.int i t)=true:=nY i t
theorem dY (prog:Program) (w:World) (x:Str) (t:Tok):(ax prog w).is (.inr x) (.str x t)=true:=nX x t
inductive V where
  | non | bl (b:Bool) | int (i:Int) | str (x:Str) | byt (b:Array UInt8) | flt (b:UInt64) | ref (a:Addr) | ty (n:String)
  deriving DecidableEq
def aT:V→Value→Prop
  | .non,u=>u=Value.none
  | .bl b,u=>u=Value.bool b
  | .int i,u=>∃ t,u=Value.int i t
  | .str x,u=>∃ t,u=Value.str x t
  | .byt b,u=>∃ t,u=Value.bytes b t
  | .flt b,u=>∃ t,u=Value.float b t
  | .ref a,u=>u=Value.ref a
  | .ty n,u=>u=Value.type n
abbrev aQ:List V→List Value→Prop:=Paired aT
theorem aQ.length {xs:List V} {us:List Value} (r:aQ xs us):xs.length=us.length:=Paired.length r
theorem aQ.get:∀ {xs:List V} {us:List Value} {i:Nat} {x:V},aQ xs us→xs[i]?=some x→∃ u,us[i]?=some u∧aT x u:=by
 intro xs us i x h
 induction h generalizing i with
 | nil=>intro e;simp at e
 | cons r t ih =>
  intro e;cases i with
  | zero=>cases e;exact⟨_,rfl,r⟩
  | succ i=>exact ih e
theorem aQ.append:∀ {xs ys:List V} {us ws:List Value},aQ xs us→aQ ys ws→aQ (xs++ys) (us++ws):=by
 intro xs ys us ws h z
 induction h with
 | nil=>exact z
 | cons r t ih=>exact .cons r ih
theorem aQ.take:∀ {xs:List V} {us:List Value} (n:Nat),aQ xs us→aQ (xs.take n) (us.take n)
 | _,_,0,_=>.nil
 | _,_,_+1,.nil=>.nil
 | _,_,n+1,.cons r t=>.cons r (aQ.take n t)
theorem aQ.drop:∀ {xs:List V} {us:List Value} (n:Nat),aQ xs us→aQ (xs.drop n) (us.drop n)
 | _,_,0,r=>r
 | _,_,_+1,.nil=>.nil
 | _,_,n+1,.cons _ t=>aQ.drop n t
def fB:Option V→Option Value→Prop
  | some v,some u=>aT v u
  | none,none=>True
  | _,_=>False
def KV {κ:Type}:List (κ×V)→List (κ×Value)→Prop:=Paired fun (p:κ×V) (q:κ×Value)=>p.1=q.1∧aT p.2 q.2
def kV:Key→V
  | .inl i=>.int i
  | .inr x=>.str x
inductive HO where
    | lst (xs:List V)
    | tup (xs:List V)
    | dK (kvs:List (Key×V)) | dT (kvs:List (List Key×V))
    | set (S:Int→Bool) (n:Nat)
    | ins (C dx:Addr) (fs:List (Str×V))
    | own (x:Addr)
    | xd (fs:List (Str×V))
    | met (f x:Addr)
    | rng (lo hi:Int)
    | frz (o:Obj) (u:HO)
    | tbl (ps:Array Value)
    | ext (φ:Heap→Prop)
abbrev Hp:=Addr→Option HO
def upd (H:Hp) (a:Addr) (o:HO):Hp:=fun b=>if b=a then some o else H b
theorem pG {H:Hp} {a:Addr} {o:HO}:upd H a o a=some o:=by unfold upd;rw[if_pos rfl]
theorem a9 {H:Hp} {a b:Addr} {o:HO} (h:b≠a):upd H a o b=H b:=by unfold upd;rw[if_neg h]
theorem mj {H:Hp} {a:Addr} {o u:HO}:upd (upd H a o) a u=upd H a u:=by
 funext b;unfold upd;split <;> rfl
theorem zL {H:Hp} {a b:Addr} {o u:HO} (h:H a=some o) (h':H b=some u) (d:o≠u):a≠b:=by
 intro e;subst e;rw[h] at h';exact d (Option.some.inj h')
theorem bh {H:Hp} {a b:Addr} {o:HO} (h:H a=some o) (h':H b=none):a≠b:=by
 intro e;subst e;rw[h] at h';cases h'
section
variable (P:Program) (w:World)
def bj (H:Hp) (h:Heap) (a:Addr):HO→Prop
  | .lst xs=>xs.length≤sizeLine∧∃ (its:List Value) (n:Nat),aQ xs its∧h.get? a=some {cls:=.type "list",data:=.seq its.toArray n}
  | .tup xs=>xs.length≤sizeLine∧∃ its:List Value,aQ xs its∧IsTup h a its.toArray
  | .dK kvs=>kvs.length≤sizeLine∧(a==sysModules)=false∧∃ vs,KV kvs vs∧h.DictOf (ax P w) a vs
  | .dT kvs=>kvs.length≤sizeLine∧(a==sysModules)=false∧∃ xs:List (List Key×Addr×Value),
      Paired (fun (p:List Key×V) (q:List Key×Addr×Value)=>p.1=q.1∧H q.2.1=some (.tup (p.1.map kV))∧aT p.2 q.2.2) kvs xs ∧
      ∃ o es ep,h.get? a=some o∧o.ExactDict∧o.data=.dict es ep∧es.toList=xs.map (entryOfKey (tupleKind (ax P w)))∧(xs.map (·.1)).Nodup
  | .set S n=>h.SetOf (intKind P w) a S n
  | .ins C dx fs=>H dx=some (.own a)∧fs.length≤1000∧dx≠a∧h.get? a=some (PySem.W.instObj C dx) ∧
      ∃ mA,h.Ns1 dx mA∧(∀ f,fB (fs.lookup f) (mA f))∧PySem.Within mA (fs.map (·.1))
  | .own _=>∃ o,h.get? a=some o
  | .xd fs=>∃ mA,h.Ns1 a mA∧∀ f,fB (fs.lookup f) (mA f)
  | .rng lo hi=>∃ t u v,h.get? a=some {cls:=.type "range",data:=.fields #[.int lo t,.int hi u,.int 1 v]}
  | .frz o u=>h.get? a=some o∧bj H h a u
  | .tbl ps=>h.get? a=some {cls:=.none,data:=.fields ps}
  | .met f x=>h.get? a=some (PySem.W.methodObj (.ref f) (.ref x))
  | .ext φ=>φ h∧(∃ o,h.get? a=some o)∧∀ h1 h2:Heap,φ h1→(∀ o,h1.get? a=some o→h2.get? a=some o)→φ h2
def HOk (H:Hp) (h:Heap):Prop:=∀ a o,H a=some o→bj P w H h a o
end
section
variable {P:Program} {w:World} {H H':Hp} {h h':Heap} {a:Addr} {o:HO}
theorem bj.lt (x:bj P w H h a o):a<h.objs.size:=by
 cases o with
 | lst xs=>obtain⟨_,_,_,_,e⟩:=x;exact Heap.lt_size e
 | tup xs=>obtain⟨_,_,_,p⟩:=x;exact p.lt
 | dK kvs=>obtain⟨_,_,_,_,o,_,_,e,_⟩:=x;exact Heap.lt_size e
 | dT kvs=>obtain⟨_,_,_,_,o,_,_,e,_⟩:=x;exact Heap.lt_size e
 | set S n=>obtain⟨o,_,_,_,e,_⟩:=x;exact Heap.lt_size e
 | ins C dx fs=>obtain⟨_,_,_,e,_⟩:=x;exact Heap.lt_size e
 | own y=>obtain⟨_,e⟩:=x;exact Heap.lt_size e
 | xd fs=>obtain⟨_,⟨_,_,_,e,_⟩,_⟩:=x;exact Heap.lt_size e
 | rng lo hi=>obtain⟨_,_,_,e⟩:=x;exact Heap.lt_size e
 | frz ob u=>obtain⟨e,_⟩:=x;exact Heap.lt_size e
 | tbl ps=>exact Heap.lt_size (show h.get? a=some _ from x)
 | met f y=>exact Heap.lt_size (show h.get? a=some _ from x)
 | ext φ=>obtain⟨_,⟨_,e⟩,_⟩:=x;exact Heap.lt_size e
theorem Paired.mapP {α β:Type} {F G:α→β→Prop}:∀ {l₁:List α} {l₂:List β},Paired F l₁ l₂→(∀ a b,F a b→G a b)→Paired G l₁ l₂:=by
 intro l₁ l₂ h f
 induction h with
 | nil=>exact .nil
 | cons r t ih=>exact .cons (f _ _ r) ih
theorem bj.stay (x:bj P w H h a o) (k:∀ b u,(b=a∨H b=some (.own a))→h.get? b=some u→h'.get? b=some u)
 (ho:∀ b,H b=some (.own a)→H' b=some (.own a)) (ht:∀ b xs,H b=some (.tup xs)→H' b=some (.tup xs)):bj P w H' h' a o:=by
 induction o with
 | lst xs=>obtain⟨z,its,n,r,e⟩:=x;exact⟨z,its,n,r,k _ _ (.inl rfl) e⟩
 | tup xs=>obtain⟨z,its,r,ob,e,c⟩:=x;exact⟨z,its,r,ob,k _ _ (.inl rfl) e,c⟩
 | dK kvs=>obtain⟨z,y,vs,r,ob,es,ep,e,c⟩:=x;exact⟨z,y,vs,r,ob,es,ep,k _ _ (.inl rfl) e,c⟩
 | dT kvs =>
  obtain⟨z,y,xs,r,ob,es,ep,e,c⟩:=x;exact⟨z,y,xs,Paired.mapP r fun p q z=>⟨z.1,ht _ _ z.2.1,z.2.2⟩,ob,es,ep,k _ _ (.inl rfl) e,c⟩
 | set S n=>obtain⟨ob,es,ep,t,e,c⟩:=x;exact⟨ob,es,ep,t,k _ _ (.inl rfl) e,c⟩
 | ins C dx fs =>
  obtain⟨d,z,ne,e,mA,⟨od,es,ep,e2,c⟩,r⟩:=x;exact⟨ho _ d,z,ne,k _ _ (.inl rfl) e,mA,⟨od,es,ep,k _ _ (.inr d) e2,c⟩,r⟩
 | own y=>obtain⟨ob,e⟩:=x;exact⟨ob,k _ _ (.inl rfl) e⟩
 | xd fs=>obtain⟨mA,⟨od,es,ep,e,c⟩,r⟩:=x;exact⟨mA,⟨od,es,ep,k _ _ (.inl rfl) e,c⟩,r⟩
 | rng lo hi=>obtain⟨t,u,v,e⟩:=x;exact⟨t,u,v,k _ _ (.inl rfl) e⟩
 | frz ob u ih=>obtain⟨e,q⟩:=x;exact⟨k _ _ (.inl rfl) e,ih q⟩
 | tbl ps =>
  have e:h.get? a=some {cls:=.none,data:=.fields ps}:=x;show h'.get? a=some {cls:=.none,data:=.fields ps};exact k a _ (.inl rfl) e
 | met f y =>
  have e:h.get? a=some (PySem.W.methodObj (.ref f) (.ref y)):=x;show h'.get? a=some (PySem.W.methodObj (.ref f) (.ref y));exact k a _ (.inl rfl) e
 | ext φ=>obtain⟨p,⟨o,e⟩,st⟩:=x;exact⟨st _ _ p fun o q=>k _ _ (.inl rfl) q,⟨o,k _ _ (.inl rfl) e⟩,st⟩
theorem HOk.lt (x:HOk P w H h) (e:H a=some o):a<h.objs.size:=(x a o e).lt
theorem HOk.fresh (x:HOk P w H h) (e:h.objs.size≤a):H a=none:=by
 cases q:H a with
 | none=>rfl
 | some u=>exact absurd (Nat.lt_of_lt_of_le (x.lt q) e) (Nat.lt_irrefl _)
theorem HOk.kept (x:HOk P w H h) (k:∀ b u,h.get? b=some u→h'.get? b=some u):HOk P w H h':=fun a o e =>
 (x a o e).stay (fun b u _ q=>k b u q) (fun _ q=>q) fun _ _ q=>q
theorem HOk.laid (x:HOk P w H h) (k:∀ b u,h.get? b=some u→h'.get? b=some u) (hp:h.objs.size≤a) (new:bj P w (upd H a o) h' a o):HOk P w (upd H a o) h':=fun b u e=>by
 have hn:=x.fresh hp;by_cases hb:b=a
 · subst hb;rw[pG] at e;cases e;exact new
 · rw[a9 hb] at e;exact (x b u e).stay (fun c v _ q=>k c v q) (fun c q=>by rw[a9 (bh q hn)];exact q) fun c xs q=>by rw[a9 (bh q hn)];exact q
end
def Rd (H:Hp) (a:Addr) (u:HO):Prop:=H a=some u∨∃ o,H a=some (.frz o u)
theorem Rd.ok {P:Program} {w:World} {H:Hp} {h:Heap} {a:Addr} {u:HO} (r:Rd H a u) (x:HOk P w H h):bj P w H h a u:=by
 rcases r with r | ⟨o,r⟩
 · exact x a u r
 · obtain⟨_,q⟩:=x a _ r;exact q
def Mut:Option HO→Prop
  | some (.lst _)=>True
  | some (.dK _)=>True
  | some (.dT _)=>True
  | some (.set _ _)=>True
  | some (.ins _ _ _)=>True
  | some (.ext _)=>True
  | _=>False
section
variable {P:Program} {w:World} {H:Hp} {h h':Heap} {x e:Addr} {o':HO}
theorem HOk.write (ok:HOk P w H h) (mu:Mut (H x)) (he:e=x∨H e=some (.own x)) (k:∀ b u,b≠e→h.get? b=some u→h'.get? b=some u) (heo:∃ u,h'.get? e=some u)
 (new:bj P w (upd H x o') h' x o'):HOk P w (upd H x o') h':=fun b u q=>by
 have nown:∀ c y,H c=some (.own y)→c≠x:=fun c y r z=>by subst z;rw[r] at mu;exact mu
 have ntup:∀ c xs,H c=some (.tup xs)→c≠x:=fun c xs r z=>by subst z;rw[r] at mu;exact mu
 by_cases hb:b=x
 · subst hb;rw[pG] at q;cases q;exact new
 · rw[a9 hb] at q;by_cases hbe:b=e
   · have q':H b=some (.own x):=by
      rcases he with z | z
      · exact absurd (hbe.trans z) hb
      · rw[hbe];exact z
     rw[q] at q';cases q';obtain⟨v,hv⟩:=heo;exact⟨v,by rw[hbe];exact hv⟩
   · refine (ok b u q).stay (fun c v hc r=>k c v ?_ r) (fun c r=>by rw[a9 (nown c b r)];exact r) fun c xs r=>by rw[a9 (ntup c xs r)];exact r
     rcases hc with rfl | hc
     · exact hbe
     · rintro rfl
       rcases he with z | z
       · exact nown c b hc z
       · rw[hc] at z;cases z;exact hb rfl
end
structure Un (fs ex:List Addr) (H H':Hp) (h h':Heap):Prop where
  keep:∀ b o,h.get? b=some o→H b=none→b∉fs→b∉ex→h'.get? b=some o
  slot:∀ b o,h.get? b=some o→H b=none→b∈fs→b∉ex→∃ sl,h'.get? b=some {o with slots:=sl}
  free:∀ b o,h.get? b=some o→H b=none→b∉ex→H' b=none
  there:∀ b o,h.get? b=some o→b∉ex→∃ o',h'.get? b=some o'
  tups:∀ b xs,H b=some (.tup xs)→H' b=some (.tup xs)
  frzs:∀ b o u,H b=some (.frz o u)→H' b=some (.frz o u)
  tbls:∀ b ps,H b=some (.tbl ps)→∃ more,H' b=some (.tbl (ps++more))
section
variable {fs fs' ex ex':List Addr} {H H1 H2:Hp} {h h1 h2 h':Heap} {a x e:Addr} {o:HO}
theorem Un.any (u:Un fs ex H H1 h h1) {b:Addr} {ob:Obj} (q:h.get? b=some ob) (n:H b=none) (hx:b∉ex):∃ sl,h1.get? b=some {ob with slots:=sl}:=by
 by_cases hb:b∈fs
 · exact u.slot b ob q n hb hx
 · exact⟨ob.slots,u.keep b ob q n hb hx⟩
theorem Un.kept (k:∀ b u,h.get? b=some u→h'.get? b=some u):Un fs ex H H h h' :=
 ⟨fun b ob q _ _ _=>k b ob q,fun b ob q _ _ _=>⟨ob.slots,k b ob q⟩,fun _ _ _ n _=>n,fun b ob q _=>⟨ob,k b ob q⟩,fun _ _ q=>q,fun _ _ _ q=>q,fun _ ps q=>⟨#[],by rw[q];simp⟩⟩
theorem Un.refl:Un fs ex H H h h:=Un.kept fun _ _ q=>q
theorem Un.laid (k:∀ b u,h.get? b=some u→h'.get? b=some u) (hp:h.objs.size≤a) (hn:H a=none):Un fs ex H (upd H a o) h h' where
 keep:=fun b u q _ _ _=>k b u q
 slot:=fun b u q _ _ _=>⟨u.slots,k b u q⟩
 free:=fun b u q n _=>by rw[a9 (Nat.ne_of_lt (Nat.lt_of_lt_of_le (Heap.lt_size q) hp))];exact n
 there:=fun b u q _=>⟨u,k b u q⟩
 tups:=fun b xs q=>by rw[a9 (bh q hn)];exact q
 frzs:=fun b u xs q=>by rw[a9 (bh q hn)];exact q
 tbls:=fun b ps q=>⟨#[],by rw[a9 (bh q hn),q];simp⟩
theorem Un.write (mu:Mut (H x)) (he:e=x∨H e=some (.own x)) (k:∀ b u,b≠e→h.get? b=some u→h'.get? b=some u) (heo:∃ u,h'.get? e=some u):Un fs ex H (upd H x o) h h':=by
 have hx:∀ b,H b=none→b≠x:=fun b n z=>by subst z;rw[n] at mu;exact mu
 have hb:∀ b,H b=none→b≠e:=fun b n z=>by
  subst z
  rcases he with r | r
  · exact hx b n r
  · rw[n] at r;cases r
 have hm:∀ b u,H b=some u→¬ Mut (some u)→b≠x:=fun b u q nm z=>by subst z;rw[q] at mu;exact nm mu
 refine⟨fun b u q n _ _=>k b u (hb b n) q,fun b u q n _ _=>⟨u.slots,k b u (hb b n) q⟩,fun b u q n _=>by rw[a9 (hx b n)];exact n,fun b u q _=>?_,
   fun b xs q=>by rw[a9 (hm b _ q fun z=>z)];exact q,fun b u xs q=>by rw[a9 (hm b _ q fun z=>z)];exact q,fun b ps q=>⟨#[],by rw[a9 (hm b _ q fun z=>z),q];simp⟩⟩
 by_cases hbe:b=e
 · subst hbe;exact heo
 · exact⟨u,k b u hbe q⟩
end
def trk (h:Heap) (H:Hp):List Addr:=(List.range h.objs.size).filter fun a=>(H a).isSome
def jz (h:Heap) (H:Hp):Heap:=PySem.W.hideAll h (trk h H)
theorem o6 (h:Heap) (H:Hp):(jz h H).objs.size=h.objs.size:=PySem.W.hideAll_size _ _
theorem qq {h:Heap} {H:Hp} {b:Addr} {o:Obj} (e:h.get? b=some o) (n:H b=none):(jz h H).get? b=some o :=
 PySem.W.hideAll_get _ e fun hm=>by
  have q:(H b).isSome=true:=(List.mem_filter.mp hm).2;rw[n] at q;simp at q
theorem sG {h:Heap} {H:Hp} {b:Addr} {o:Obj} (e:(jz h H).get? b=some o):h.get? b=some o∧H b=none:=by
 have e':h.get? b=some o:=PySem.W.of_hideAll (trk h H) e;refine⟨e',?_⟩;cases q:H b with
 | none=>rfl
 | some x =>
  have hm:b∈trk h H:=List.mem_filter.mpr ⟨List.mem_range.mpr (Heap.lt_size e'),by simp[q]⟩;have z:(jz h H).get? b=none:=PySem.W.hideAll_none (trk h H) hm;rw[z] at e;cases e
def tJ (g h:Heap) (L:Addr):AOs:=(List.range h.objs.size).filterMap fun a=>if a=L∨(g.get? a).isSome=true then none else (h.get? a).map fun o=>(a,o)
def d7 (g h:Heap) (L d:Addr):AOs:=(tJ g h L).filter fun p=>decide (p.1≠d)
structure Mod (K:Fg) (mg:SOV) (base:Heap):Prop where
  kin:K.In base
  glob:base.Ns mainGlobals mg
  blt:∃ mb,base.Ns builtinsNs mb∧∀ x:Str,x≠"__name__"→mb x=bootBuiltins x
  nolimit:base.NoLimit
structure Cx where
  prog:Program
  w:World
  K:Fg
  mg:Str→Option Value
  base:Heap
  A:Around
  N:List Str
  s₀:Shared
  H₀:Hp
  env:Env
  outer:List Env
  stack:List Env
  ex:List Addr
  fn:Str→Bool
  calm:Bool
  pn:AOs
  xe:Value→Shared→Prop
def frs (l:List Env):List Addr:=l.filterMap (·.frame)
abbrev Cx.fs (X:Cx):List Addr:=frs X.outer
def Vis (sc:Scope) (x:Str):Prop:=sc.names.lookup x=some .local∨sc.names.lookup x=some .cell∨sc.names.lookup x=some .free
def Loc (sc:Scope) (x:Str):Prop:=sc.names.lookup x=some .local∨sc.names.lookup x=some .cell
def D3 (env:Env) (h:Heap) (m:SOV) (x:Str) (u:Value):Prop :=
  (env.kindOf x=some .local∧m x=some u)∨((env.kindOf x=some .cell∨env.kindOf x=some .free)∧∃ c,env.cells.lookup x=some c∧h.IsCell c (some u))
structure Cx.Ok (X:Cx):Prop where
  mod:Mod X.K X.mg X.base
  kind:X.env.scope.kind=.function
  glob:X.env.globals=mainGlobals
  blt:X.env.builtins=builtinsNs
  above:X.s₀.heap.objs.size≤X.env.locals
  inj:∀ x y c,X.env.cells.lookup x=some c→X.env.cells.lookup y=some c→x=y
  has:∀ x,(X.env.kindOf x=some .cell∨X.env.kindOf x=some .free)→∃ c,X.env.cells.lookup x=some c
  cab:∀ x c,X.fn x=true→X.env.cells.lookup x=some c→X.s₀.heap.objs.size≤c
  hd:X.calm=true→X.A.handled=none
  frames:X.A.frames=some X.stack
  stk:X.stack=X.outer∨(X.stack=X.env::X.outer∧X.env.frame=some X.env.locals)
  exf:∀ b∈X.ex,b≠X.env.locals∧∀ x c,X.env.cells.lookup x=some c→c≠b
  bs:∀ b o,X.base.get? b=some o→X.s₀.heap.get? b=some o∧X.H₀ b=none
  bsz:X.base.objs.size≤X.s₀.heap.objs.size
  noex:∀ b o,X.base.get? b=some o→b∉X.ex
  exfs:∀ b∈X.ex,b∉X.fs
  funs:X.s₀.heap.FunFrames X.base X.outer
  frf:∀ b∈X.fs,X.H₀ b=none
structure Inv (X:Cx) (pins:AOs) (σ:List (Option V)) (H:Hp) (s:Shared):Prop where
  ok:X.Ok
  os:s.os=X.s₀.os
  bare:AllBare s.gens
  base:Un X.fs X.ex X.H₀ H X.s₀.heap s.heap
  loc:∃ m,s.heap.Ns X.env.locals m∧∀ (i:Nat) (x:Str) (v:V),X.N[i]?=some x→σ[i]?=some (some v)→Vis X.env.scope x→∃ u,aT v u∧D3 X.env s.heap m x u
  cell:∀ x c,X.env.cells.lookup x=some c→∃ v,s.heap.IsCell c v
  free:H X.env.locals=none
  freeC:∀ x c,X.env.cells.lookup x=some c→H c=none
  pin:∀ p∈X.pn++pins,s.heap.get? p.1=some p.2∧H p.1=none∧p.1≠X.env.locals∧p.1∉X.fs∧∀ v,p.2.data≠.cell v
  hok:HOk X.prog X.w H s.heap
  len:σ.length=X.N.length
section
variable {X:Cx} {pins:AOs} {σ:List (Option V)} {H H':Hp} {s:Shared} {h':Heap}
theorem Cx.Ok.nofr (ok:X.Ok) {b:Addr} {o:Obj} (e:X.base.get? b=some o):b∉X.fs:=fun hb=>by
 have:=(ok.funs.mem hb).1;rw[e] at this;cases this
theorem Inv.bs (I:Inv X pins σ H s):∀ b o,X.base.get? b=some o→s.heap.get? b=some o∧H b=none:=fun b o e =>
 ⟨I.base.keep b o (I.ok.bs b o e).1 (I.ok.bs b o e).2 (I.ok.nofr e) (I.ok.noex b o e),I.base.free b o (I.ok.bs b o e).1 (I.ok.bs b o e).2 (I.ok.noex b o e)⟩
theorem Inv.bk (I:Inv X pins σ H s):∀ b o,X.base.get? b=some o→s.heap.get? b=some o:=fun b o e=>(I.bs b o e).1
theorem Inv.mod (I:Inv X pins σ H s):Mod X.K X.mg X.base:=I.ok.mod
theorem Inv.kIn (I:Inv X pins σ H s):X.K.In s.heap:=I.ok.mod.kin.keeps I.bk
theorem Inv.lt (I:Inv X pins σ H s):X.env.locals<s.heap.objs.size:=by
 obtain⟨_,hn,_⟩:=I.loc;exact hn.lt
theorem Inv.sz (I:Inv X pins σ H s):X.s₀.heap.objs.size≤s.heap.objs.size:=Nat.le_trans I.ok.above (Nat.le_of_lt I.lt)
theorem Inv.nofs (I:Inv X pins σ H s) {a:Addr} (h:s.heap.objs.size≤a):a∉X.fs:=fun hb=>by
 obtain⟨_,o,ho,_⟩:=I.ok.funs.mem hb;exact absurd (Nat.lt_of_lt_of_le (Heap.lt_size ho) (Nat.le_trans I.sz h)) (Nat.lt_irrefl _)
theorem Inv.cne (I:Inv X pins σ H s):∀ x c,X.env.cells.lookup x=some c→c≠X.env.locals:=fun x c e z=>by
 obtain⟨v,o,ho,hd⟩:=I.cell x c e;obtain⟨m,⟨o',es,ep,ho',hd',_⟩,_⟩:=I.loc;rw[z,ho'] at ho;cases ho;rw[hd'] at hd;cases hd
theorem Inv.funs (I:Inv X pins σ H s):s.heap.FunFrames X.base X.outer:=by
 have all:∀ (l:List Env),(∀ b∈frs l,b∈X.fs)→X.s₀.heap.FunFrames X.base l→s.heap.FunFrames X.base l:=by
  intro l
  induction l with
  | nil=>intro _ _;trivial
  | cons env r ih =>
   intro hs hl;obtain⟨hk,⟨L,o,hf,hn,ho,hd⟩,hr⟩:=hl;have hL:L∈X.fs:=hs L (by unfold frs;rw[List.filterMap_cons,hf];exact mCS);obtain⟨sl,e⟩:=I.base.slot L o ho (I.ok.frf L hL) hL fun z=>I.ok.exfs L z hL;exact⟨hk,⟨L,_,hf,hn,e,hd⟩,ih (fun b hb=>hs b (by unfold frs;rw[List.filterMap_cons,hf];exact mCM _ hb)) hr⟩
 exact all X.outer (fun _ hb=>hb) I.ok.funs
theorem Inv.stack (I:Inv X pins σ H s):s.heap.FunFrames X.base X.stack:=by
 rcases I.ok.stk with e | ⟨e,hf⟩
 · rw[e];exact I.funs
 · rw[e];obtain⟨m,hn,_⟩:=I.loc;refine .cons (by rw[I.ok.kind];decide) hf hn ?_ I.funs;exact Heap.get?_none_of_le (Nat.le_trans I.ok.bsz I.ok.above)
theorem Inv.stkSub (I:Inv X pins σ H s):∀ b∈frs X.stack,b∈X.env.locals::X.fs:=fun b hb=>by
 rcases I.ok.stk with e | ⟨e,hf⟩
 · rw[e] at hb;exact mCM _ hb
 · rw[e] at hb;unfold frs at hb;rw[List.filterMap_cons,hf] at hb;exact hb
theorem Inv.stkFree (I:Inv X pins σ H s):∀ b∈frs X.stack,H b=none:=fun b hb=>by
 rcases List.mem_cons.mp (I.stkSub b hb) with e | hb
 · rw[e];exact I.free
 · obtain⟨_,o,ho,_⟩:=I.ok.funs.mem hb;exact I.base.free b o ho (I.ok.frf b hb) fun z=>I.ok.exfs b z hb
theorem Inv.step {g':Array GenState} {t':Nat} {d':Drawn} {ch:List Addr} (I:Inv X pins σ H s)
 (hch:∀ b∈ch,(b∈X.ex∨X.s₀.heap.objs.size≤b)∧b≠X.env.locals∧(∀ x c,X.env.cells.lookup x=some c→c≠b)∧∀ p∈X.pn++pins,p.1≠b)
 (keep:∀ b o,b≠X.env.locals→b∉X.fs→b∉ch→s.heap.get? b=some o→H b=none→h'.get? b=some o)
 (slot:∀ b o,b≠X.env.locals→b∈X.fs→b∉ch→s.heap.get? b=some o→H b=none→∃ sl,h'.get? b=some {o with slots:=sl}) (free:∀ b o,b∉ch→s.heap.get? b=some o→H b=none→H' b=none)
 (there:∀ b o,b∉ch→s.heap.get? b=some o→∃ o',h'.get? b=some o')
 (tups:∀ b xs,H b=some (.tup xs)→H' b=some (.tup xs)) (frzs:∀ b o u,H b=some (.frz o u)→H' b=some (.frz o u)) (tbls:∀ b ps,H b=some (.tbl ps)→∃ more,H' b=some (.tbl (ps++more)))
 (ns:∀ m,s.heap.Ns X.env.locals m→h'.Ns X.env.locals m) (hok:HOk X.prog X.w H' h') (hg:AllBare g') :
 Inv X pins σ H' {s with heap:=h',gens:=g',drawn:=d',toks:=t'}:=by
 have neL:∀ b o,X.s₀.heap.get? b=some o→b≠X.env.locals:=fun b o e=>Nat.ne_of_lt (Nat.lt_of_lt_of_le (Heap.lt_size e) I.ok.above);have neC:∀ b o,X.s₀.heap.get? b=some o→b∉X.ex→b∉ch:=fun b o e hx hb=>by
  rcases (hch b hb).1 with z | z
  · exact hx z
  · exact absurd (Nat.lt_of_lt_of_le (Heap.lt_size e) z) (Nat.lt_irrefl _)
 have cellK:∀ x c,X.env.cells.lookup x=some c→∀ v,s.heap.IsCell c v→h'.IsCell c v:=fun x c e v ⟨o,ho,hd⟩=>by
  have nch:c∉ch:=fun z=>(hch c z).2.2.1 x c e rfl;by_cases hc:c∈X.fs
  · obtain⟨sl,q⟩:=slot c o (I.cne x c e) hc nch ho (I.freeC x c e);exact⟨_,q,hd⟩
  · exact⟨o,keep c o (I.cne x c e) hc nch ho (I.freeC x c e),hd⟩
 refine⟨I.ok,I.os,hg,⟨fun b o e n hb hx=>?_,fun b o e n hb hx=>?_,fun b o e n hx=>?_,fun b o e hx=>?_,fun b xs e=>tups b xs (I.base.tups b xs e),fun b o xs e=>frzs b o xs (I.base.frzs b o xs e),fun b ps e=>?_⟩,?_,fun x c e=>?_,?_,fun x c e=>?_,fun p hp=>?_,hok,I.len⟩
 · exact keep b o (neL b o e) hb (neC b o e hx) (I.base.keep b o e n hb hx) (I.base.free b o e n hx)
 · obtain⟨sl,e1⟩:=I.base.slot b o e n hb hx;obtain⟨sl',e2⟩:=slot b _ (neL b o e) hb (neC b o e hx) e1 (I.base.free b o e n hx);exact⟨sl',e2⟩
 · obtain⟨o',e1⟩:=I.base.there b o e hx;exact free b o' (neC b o e hx) e1 (I.base.free b o e n hx)
 · obtain⟨o',e1⟩:=I.base.there b o e hx;exact there b o' (neC b o e hx) e1
 · obtain⟨m1,e1⟩:=I.base.tbls b ps e;obtain⟨m2,e2⟩:=tbls b _ e1;exact⟨m1++m2,by rw[e2,Array.append_assoc]⟩
 · obtain⟨m,hn,hl⟩:=I.loc;refine⟨m,ns m hn,fun i x v e1 e2 e3=>?_⟩;obtain⟨u,r,l⟩:=hl i x v e1 e2 e3;refine⟨u,r,?_⟩
   rcases l with l | ⟨k,c,e,z⟩
   · exact .inl l
   · exact .inr ⟨k,c,e,cellK x c e _ z⟩
 · obtain⟨v,z⟩:=I.cell x c e;exact⟨v,cellK x c e v z⟩
 · obtain⟨m,⟨o,_,_,ho,_⟩,_⟩:=I.loc;exact free _ o (fun z=>(hch _ z).2.1 rfl) ho I.free
 · obtain⟨v,o,ho,hd⟩:=I.cell x c e;exact free c o (fun z=>(hch c z).2.2.1 x c e rfl) ho (I.freeC x c e)
 · obtain⟨e,n,ne,nf,d⟩:=I.pin p hp;have nch:p.1∉ch:=fun z=>(hch p.1 z).2.2.2 p hp rfl;exact⟨keep p.1 p.2 ne nf nch e n,free p.1 p.2 nch e n,ne,nf,d⟩
theorem Inv.un {t':Nat} (I:Inv X pins σ H s) (u:Un X.fs [] H H' s.heap h') (hok:HOk X.prog X.w H' h'):Inv X pins σ H' {s with heap:=h',toks:=t'}:=by
 obtain⟨m,⟨o,es,ep,ho,r⟩,_⟩:=id I.loc;obtain⟨sl,hL⟩:=u.any ho I.free (by simp);exact I.step (g':=s.gens) (d':=s.drawn) (ch:=[]) (fun _ z=>nomatch z) (fun b o _ hb _ e n=>u.keep b o e n hb (by simp)) (fun b o _ hb _ e n=>u.slot b o e n hb (by simp)) (fun b o _ e n=>u.free b o e n (by simp)) (fun b o _ e=>u.there b o e (by simp)) u.tups u.frzs u.tbls (fun m' hm=>by
   obtain⟨o',es',ep',ho',r'⟩:=hm;rw[ho] at ho';cases ho';exact⟨_,es',ep',hL,r'⟩) hok I.bare
theorem Inv.call {g':Array GenState} {t':Nat} {d':Drawn} {ch:List Addr} (I:Inv X pins σ H s) (u:Un (frs X.stack) ch H H' s.heap h') (hok:HOk X.prog X.w H' h') (hg:AllBare g')
 (hch:∀ b∈ch,(b∈X.ex∨X.s₀.heap.objs.size≤b)∧b≠X.env.locals∧(∀ x c,X.env.cells.lookup x=some c→c≠b)∧∀ p∈X.pn++pins,p.1≠b) :
 Inv X pins σ H' {s with heap:=h',gens:=g',drawn:=d',toks:=t'}:=by
 obtain⟨m,⟨o,es,ep,ho,r⟩,_⟩:=id I.loc;obtain⟨sl,hL⟩:=u.any ho I.free fun z=>(hch _ z).2.1 rfl;exact I.step (ch:=ch) hch (fun b o hL hb hc e n=>u.keep b o e n (fun z=>(List.mem_cons.mp (I.stkSub b z)).elim hL hb) hc) (fun b o _ _ hc e n=>u.any e n hc) (fun b o hc e n=>u.free b o e n hc) (fun b o hc e=>u.there b o e hc) u.tups u.frzs u.tbls (fun m' hm=>by
   obtain⟨o',es',ep',ho',r'⟩:=hm;rw[ho] at ho';cases ho';exact⟨_,es',ep',hL,r'⟩) hok hg
theorem Inv.turned {t':Nat} {it:Addr} (I:Inv X pins σ H s) (k:∀ b o,b≠it→s.heap.get? b=some o→h'.get? b=some o) (hn:H it=none) (hL:it≠X.env.locals)
 (h1:it∈X.ex∨X.s₀.heap.objs.size≤it) (h2:∀ x c,X.env.cells.lookup x=some c→c≠it) (h3:∀ p∈X.pn++pins,p.1≠it):Inv X pins σ H {s with heap:=h',toks:=t'}:=by
 have nit:∀ b u,H b=some u→b≠it:=fun b u e z=>by rw[z,hn] at e;cases e
 refine I.step (g':=s.gens) (d':=s.drawn) (ch:=[it]) (fun b hb=>?_) (fun b o _ _ hc e _=>k b o (fun z=>hc (by simp[z])) e) (fun b o _ _ hc e _=>⟨o.slots,k b o (fun z=>hc (by simp[z])) e⟩) (fun _ _ _ _ n=>n)
  (fun b o hc e=>⟨o,k b o (fun z=>hc (by simp[z])) e⟩) (fun _ _ e=>e) (fun _ _ _ e=>e) (fun b ps e=>⟨#[],by rw[e];simp⟩) (fun m hm=>?_) (fun b u e=>?_) I.bare
 · have e:b=it:=by simpa using hb
   subst e;exact⟨h1,hL,h2,h3⟩
 · obtain⟨o,es,ep,ho,r⟩:=hm;exact⟨o,es,ep,k _ o (Ne.symm hL) ho,r⟩
 · refine (I.hok b u e).stay (fun c v hc q=>k c v ?_ q) (fun _ q=>q) fun _ _ q=>q
   rcases hc with z | z
   · rw[z];exact nit b u e
   · exact nit c _ z
theorem Inv.tok (I:Inv X pins σ H s) (t:Nat):Inv X pins σ H {s with toks:=t}:=I.un (h':=s.heap) (t':=t) Un.refl I.hok
theorem Inv.kept {t':Nat} (I:Inv X pins σ H s) (k:∀ b u,s.heap.get? b=some u→h'.get? b=some u):Inv X pins σ H {s with heap:=h',toks:=t'}:=I.un (Un.kept k) (I.hok.kept k)
theorem Inv.laid {a:Addr} {o:HO} {t':Nat} (I:Inv X pins σ H s) (k:∀ b u,s.heap.get? b=some u→h'.get? b=some u) (hp:s.heap.objs.size≤a) (new:bj X.prog X.w (upd H a o) h' a o) :
 Inv X pins σ (upd H a o) {s with heap:=h',toks:=t'}:=I.un (Un.laid k hp (I.hok.fresh hp)) (I.hok.laid k hp new)
theorem Inv.write {x e:Addr} {o:HO} {t':Nat} (I:Inv X pins σ H s) (mu:Mut (H x)) (he:e=x∨H e=some (.own x)) (k:∀ b u,b≠e→s.heap.get? b=some u→h'.get? b=some u) (heo:∃ u,h'.get? e=some u)
 (new:bj X.prog X.w (upd H x o) h' x o):Inv X pins σ (upd H x o) {s with heap:=h',toks:=t'}:=I.un (Un.write mu he k heo) (I.hok.write mu he k heo new)
theorem Inv.pins_of {pins':AOs} (I:Inv X pins σ H s) (h:∀ p∈pins',s.heap.get? p.1=some p.2∧H p.1=none∧p.1≠X.env.locals∧p.1∉X.fs∧∀ v,p.2.data≠.cell v):Inv X pins' σ H s :=
 ⟨I.ok,I.os,I.bare,I.base,I.loc,I.cell,I.free,I.freeC,fun p hp=>(mAp.mp hp).elim (fun z=>I.pin p (List.mem_append_left _ z)) (h p),I.hok,I.len⟩
theorem kE {N:List Str} (hN:N.Nodup) {i j:Nat} {x:Str} (a:N[i]?=some x) (b:N[j]?=some x):i=j:=by
 obtain⟨h1,e1⟩:=gES.mp a;obtain⟨h2,e2⟩:=gES.mp b;exact (List.getElem_inj hN).mp (e1.trans e2.symm)
theorem iP {M:Model} {A:Around} {E:VSP} {i:Nat} {x:Str} {v:V} {u:Value} {Q:Unit→Shared→Prop} (I:Inv X pins σ H s) (hN:X.N.Nodup) (hi:X.N[i]?=some x) (hx:Loc X.env.scope x) (r:aT v u)
 (h:∀ s',Inv X pins (σ.set i (some v)) H s'→(∃ a,Heap.SameBut a s.heap s'.heap∧(a=X.env.locals∨X.env.cells.lookup x=some a))→Q () s') (hf:X.fn x=true∨X.env.scope.names.lookup x=some .local:=by first | exact .inl rfl | exact .inr rfl | assumption):wpAny M A (storeName X.env x u) Q E s:=by
 obtain⟨m,hn,hl⟩:=id I.loc;have hcls:(X.env.scope.kind==.class||(X.env.scope.kind==.module&&X.env.locals != X.env.globals))=false:=by rw[I.ok.kind];rfl
 have hiσ:i<σ.length:=by rw[I.len];exact (gES.mp hi).1
 have cne:=I.cne;have tracked:∀ {a:Addr} {h':Heap},(∃ o,s.heap.get? a=some o∧H a=none)→Heap.SameBut a s.heap h'→HOk X.prog X.w H h':=fun {a h'} ha hs b ob e=>by
  obtain⟨_,_,hfree⟩:=ha;refine (I.hok b ob e).stay (fun c w' hc q=>(hs.2 c ?_).trans q) (fun _ q=>q) fun _ _ q=>q;rintro rfl
  rcases hc with rfl | hc
  · rw[hfree] at e;cases e
  · rw[hfree] at hc;cases hc
 rcases hx with hk | hk
 · refine wpAny_storeName_local hk hn (fun h' hn' hs=>?_) hcls;obtain⟨oL,_,_,hoL,_⟩:=id hn;refine h _ ⟨I.ok,I.os,I.bare,⟨fun b o e n hb hx=>?_,fun b o e n hb hx=>?_,I.base.free,fun b o e hx=>?_,I.base.tups,I.base.frzs,I.base.tbls⟩,⟨_,hn',fun j y v' e1 e2 e3=>?_⟩,fun y c e=>?_,I.free,I.freeC,fun p hp=>?_,tracked ⟨oL,hoL,I.free⟩ hs,by simpa using I.len⟩ ⟨_,hs,.inl rfl⟩
   · exact (hs.2 b (Nat.ne_of_lt (Nat.lt_of_lt_of_le (Heap.lt_size e) I.ok.above))).trans (I.base.keep b o e n hb hx)
   · obtain⟨sl,e1⟩:=I.base.slot b o e n hb hx;exact⟨sl,(hs.2 b (Nat.ne_of_lt (Nat.lt_of_lt_of_le (Heap.lt_size e) I.ok.above))).trans e1⟩
   · obtain⟨o',e1⟩:=I.base.there b o e hx;exact⟨o',(hs.2 b (Nat.ne_of_lt (Nat.lt_of_lt_of_le (Heap.lt_size e) I.ok.above))).trans e1⟩
   · by_cases hj:j=i
     · subst hj;rw[hi] at e1;cases e1;rw[List.getElem?_set_self hiσ] at e2;cases e2;exact⟨u,r,.inl ⟨hk,by simp⟩⟩
     · rw[List.getElem?_set_ne (Ne.symm hj)] at e2;obtain⟨u',r',q⟩:=hl j y v' e1 e2 e3;refine⟨u',r',?_⟩
       rcases q with ⟨k,e⟩ | ⟨k,c,e,z⟩
       · refine .inl ⟨k,?_⟩;have:y≠x:=fun e=>hj (kE hN e1 (e▸hi));simp[this,e]
       · exact .inr ⟨k,c,e,z.sameBut hs (cne y c e)⟩
   · obtain⟨w',z⟩:=I.cell y c e;exact⟨w',z.sameBut hs (cne y c e)⟩
   · obtain⟨e,n,ne,nf,d⟩:=I.pin p hp;exact⟨(hs.2 p.1 ne).trans e,n,ne,nf,d⟩
 · have hfn:X.fn x=true:=by
    rcases hf with z | z
    · exact z
    · rw[z] at hk;cases hk
   obtain⟨c,hc⟩:=I.ok.has x (.inl hk);obtain⟨w',z⟩:=I.cell x c hc;refine wpAny_storeName_cell I.ok.kind hk hc z (fun h' hc' hs=>?_);obtain⟨oc,hoc,hocd⟩:=id z;refine h {s with heap:=h'} ⟨I.ok,I.os,I.bare,⟨fun b o e n hb hx=>?_,fun b o e n hb hx=>?_,I.base.free,fun b o e hx=>?_,I.base.tups,I.base.frzs,I.base.tbls⟩,⟨m,hn.sameBut hs (Ne.symm (cne x c hc)),fun j y v' e1 e2 e3=>?_⟩,fun y c' e=>?_,I.free,I.freeC,fun p hp=>?_,tracked ⟨oc,hoc,I.freeC x c hc⟩ hs,by simpa using I.len⟩ ⟨c,hs,.inr hc⟩
   · exact (hs.2 b (Nat.ne_of_lt (Nat.lt_of_lt_of_le (Heap.lt_size e) (I.ok.cab x c hfn hc)))).trans (I.base.keep b o e n hb hx)
   · obtain⟨sl,e1⟩:=I.base.slot b o e n hb hx;exact⟨sl,(hs.2 b (Nat.ne_of_lt (Nat.lt_of_lt_of_le (Heap.lt_size e) (I.ok.cab x c hfn hc)))).trans e1⟩
   · obtain⟨o',e1⟩:=I.base.there b o e hx;exact⟨o',(hs.2 b (Nat.ne_of_lt (Nat.lt_of_lt_of_le (Heap.lt_size e) (I.ok.cab x c hfn hc)))).trans e1⟩
   · by_cases hj:j=i
     · subst hj;rw[hi] at e1;cases e1;rw[List.getElem?_set_self hiσ] at e2;cases e2;exact⟨u,r,.inr ⟨.inl hk,c,hc,hc'⟩⟩
     · rw[List.getElem?_set_ne (Ne.symm hj)] at e2;obtain⟨u',r',q⟩:=hl j y v' e1 e2 e3;refine⟨u',r',?_⟩
       rcases q with q | ⟨k,c',e,z'⟩
       · exact .inl q
       · refine .inr ⟨k,c',e,z'.sameBut hs ?_⟩;rintro rfl;exact hj (kE hN e1 (I.ok.inj _ _ _ e hc▸hi))
   · by_cases hcc:c'=c
     · subst hcc;exact⟨_,hc'⟩
     · obtain⟨w2,z2⟩:=I.cell y c' e;exact⟨w2,z2.sameBut hs hcc⟩
   · obtain⟨e,n,ne,nf,d⟩:=I.pin p hp;refine⟨(hs.2 p.1 ?_).trans e,n,ne,nf,d⟩;intro q;rw[q,hoc] at e;have q':oc=p.2:=Option.some.inj e;exact d w' (by rw[← q'];exact hocd)
theorem gQ {M:Model} {A:Around} {E:VSP} {i:Nat} {x:Str} {v:V} {u:Value} {Q:Unit→Shared→Prop} (I:Inv X pins σ H s) (hN:X.N.Nodup) (hi:X.N[i]?=some x) (hx:Loc X.env.scope x) (r:aT v u)
 (h:∀ s',Inv X pins (σ.set i (some v)) H s'→Q () s') (hf:X.fn x=true∨X.env.scope.names.lookup x=some .local:=by first | exact .inl rfl | exact .inr rfl | assumption):wpAny M A (storeName X.env x u) Q E s :=
 iP I hN hi hx r (fun s' I' _=>h s' I') hf
theorem Inv.call' {s':Shared} {ch:List Addr} (I:Inv X pins σ H s) (ho:s'.os=s.os) (u:Un (frs X.stack) ch H H' s.heap s'.heap) (hok:HOk X.prog X.w H' s'.heap) (hg:AllBare s'.gens)
 (hch:∀ b∈ch,(b∈X.ex∨X.s₀.heap.objs.size≤b)∧b≠X.env.locals∧(∀ x c,X.env.cells.lookup x=some c→c≠b)∧∀ p∈X.pn++pins,p.1≠b):Inv X pins σ H' s':=by
 obtain⟨h',g',d',t',o'⟩:=s';have e:o'=s.os:=ho;subst e;exact I.call (g':=g') (t':=t') (d':=d') u hok hg hch
end
abbrev XK:=Value→Option Addr→Hp→Prop
abbrev St:=List (Option V)
abbrev VK:=V→Hp→Prop
abbrev TE:=St→Hp→VK→Prop
abbrev TT:=St→Hp→(Bool→Hp→Prop)→Prop
abbrev TA:=St→Hp→(List V→Hp→Prop)→Prop
structure eO where
  nx:St→Hp→Prop
  rt:VK
  bk:St→Hp→Prop:=fun _ _=>False
  ct:St→Hp→Prop:=fun _ _=>False
abbrev TS:=eO→St→Hp→Prop
def EP (X:Cx) (pins:AOs) (σ:St) (Q:VK) (u:Value) (s':Shared):Prop:=∃ v H',Inv X pins σ H' s'∧aT v u∧Q v H'
def TP (X:Cx) (pins:AOs) (σ:St) (Q:Bool→Hp→Prop) (b:Bool) (s':Shared):Prop:=∃ H',Inv X pins σ H' s'∧Q b H'
def AP (X:Cx) (pins:AOs) (σ:St) (Q:List V→Hp→Prop) (us:List Value) (s':Shared):Prop:=∃ vs H',Inv X pins σ H' s'∧aQ vs us∧Q vs H'
def SP (X:Cx) (pins:AOs) (D:eO) (f:Flow) (s':Shared):Prop :=
  match f with
  | .next=>∃ σ' H',Inv X pins σ' H' s'∧D.nx σ' H'
  | .brk=>∃ σ' H',Inv X pins σ' H' s'∧D.bk σ' H'
  | .cont=>∃ σ' H',Inv X pins σ' H' s'∧D.ct σ' H'
  | .ret u=>∃ v σ' H',Inv X pins σ' H' s'∧aT v u∧D.rt v H'
def PE (X:Cx) (e:Expr) (t:TE):Prop :=
  ∀ (pins:AOs) (s:Shared) (σ:St) (H:Hp) (Q:VK),Inv X pins σ H s→t σ H Q→wpAny (model X.prog X.w) X.A (eval e X.env) (EP X pins σ Q) X.xe s
def PT (X:Cx) (e:Expr) (t:TT):Prop :=
  ∀ (pins:AOs) (s:Shared) (σ:St) (H:Hp) (Q:Bool→Hp→Prop),Inv X pins σ H s→t σ H Q→wpAny (model X.prog X.w) X.A (isTrue e X.env (eval e X.env)) (TP X pins σ Q) X.xe s
def PW (X:Cx) (e:Expr) (t:TT):Prop :=
  ∀ (whole:Sem Value) (pins:AOs) (s:Shared) (σ:St) (H:Hp) (Q:Bool→Hp→Prop),Inv X pins σ H s→t σ H Q→wpAny (model X.prog X.w) X.A (isTrue e X.env whole) (TP X pins σ Q) X.xe s
theorem PW.pt {X:Cx} {e:Expr} {t:TT} (h:PW X e t):PT X e t:=h _
def PA (X:Cx) (es:List Expr) (t:TA):Prop :=
  ∀ (pos:Pos) (pins:AOs) (s:Shared) (σ:St) (H:Hp) (Q:List V→Hp→Prop),Inv X pins σ H s→t σ H Q→wpAny (model X.prog X.w) X.A (spliced (backTo pos (starEach es X.env))) (AP X pins σ Q) X.xe s
def PS (X:Cx) (st:Stmt) (t:TS):Prop :=
  ∀ (pins:AOs) (s:Shared) (σ:St) (H:Hp) (D:eO),Inv X pins σ H s→t D σ H→wpAny (model X.prog X.w) X.A (exec st X.env) (SP X pins D) X.xe s
def PSs (X:Cx) (st:List Stmt) (t:TS):Prop :=
  ∀ (pins:AOs) (s:Shared) (σ:St) (H:Hp) (D:eO),Inv X pins σ H s→t D σ H→wpAny (model X.prog X.w) X.A (execs st X.env) (SP X pins D) X.xe s
theorem thn {α:Type} {t:Sem α} {Q Q':α→Shared→Prop} {M:Model} {A:Around} {E:VSP} {s:Shared} (h:wpAny M A t Q E s) (hQ:∀ a s,Q a s→Q' a s):wpAny M A t Q' E s:=wpAny_mono h hQ fun _ _ x=>x
section
variable {X:Cx}
inductive AO (o:Option (Option V)) (H:Hp) (Q:VK):Prop
  | mk (v:V) (h:o=some (some v)) (q:Q v H):AO o H Q
inductive BlR (x:V) (H:Hp) (Q:Bool→Hp→Prop):Prop
  | mk (c:Bool) (h:x=.bl c) (q:Q c H):BlR x H Q
inductive wW (x:V) (H:Hp) (Q:Int→Hp→Prop):Prop
  | mk (i:Int) (h:x=.int i) (q:Q i H):wW x H Q
inductive uR (x y:V) (H:Hp) (C:Int→Int→Prop) (g:Int→Int→V) (Q:VK):Prop
  | mk (i j:Int) (h:x=.int i) (h':y=.int j) (c:C i j) (q:Q (g i j) H):uR x y H C g Q
inductive rq (x y:V) (H:Hp) (g:Int→Int→V) (Q:VK):Prop
  | mk (i j:Int) (h:x=.int i) (h':y=.int j) (q:Q (g i j) H):rq x y H g Q
def cq (i:Nat):TE:=fun σ H Q=>AO σ[i]? H Q
def tC (v:V):TE:=fun _ H Q=>Q v H
theorem vL {i:Nat} {x:Str} {pos:Pos} (hN:X.N[i]?=some x) (hv:Vis X.env.scope x) (hd:(x==("__debug__":Str))=false:=by decide) (hcd:(x==("__classdict__":Str))=false:=by decide):PE X (.Name x pos) (cq i):=by
 intro pins s σ H Q I h;obtain⟨v,e,h⟩:=h;obtain⟨m,hn,hl⟩:=I.loc;obtain⟨u,r,l⟩:=hl i x v hN e hv;have fin:EP X pins σ Q u s:=⟨v,H,I,r,h⟩
 rcases l with ⟨hk,hm⟩ | ⟨hk,c,hc,hcell⟩
 · exact wpAny_Name (wpAny_loadName_local I.ok.kind hk hn hm fin) hd
 · rcases hk with hk | hk
   · exact wpAny_Name (wpAny_loadName_cell I.ok.kind hk hc hcell fin) hd
   · exact wpAny_Name (wpAny_loadName_free I.ok.kind hk hc hcell fin hcd) hd
theorem pH {i j pos}:PE X (.Constant (.int i) j pos) (tC (.int i)):=fun _ _ _ H _ I h=>wpAny_Constant_int ⟨.int i,H,I.tok _,⟨_,rfl⟩,h⟩
theorem dW {b j pos}:PE X (.Constant (.bool b) j pos) (tC (.bl b)):=fun _ _ _ H _ I h=>Constant_bool ⟨.bl b,H,I,rfl,h⟩
theorem pD {x j pos}:PE X (.Constant (.str x) j pos) (tC (.str x)):=fun _ _ _ H _ I h=>Calls.Constant_str ⟨.str x,H,I.tok _,⟨_,rfl⟩,h⟩
def Gl (X:Cx) (x:Str):Prop:=X.env.kindOf x=some .globalImplicit
theorem mG {E:VSP} {pins:AOs} {s:Shared} {σ:St} {H:Hp} {x:Str} {u:Value} {pos:Pos} {Q:VSP} (I:Inv X pins σ H s) (hg:Gl X x) (hm:X.mg x=some u) (h:Q u s)
 (hd:(x==("__debug__":Str))=false:=by decide):wpAny (model X.prog X.w) X.A (eval (.Name x pos) X.env) Q E s :=
 Calls.Name_function_global I.ok.kind hg (Calls.loadGlobal_global (by rw[I.ok.glob];exact I.mod.glob.keeps I.bk) hm h) hd
theorem cW {E:VSP} {pins:AOs} {s:Shared} {σ:St} {H:Hp} {x:Str} {u:Value} {pos:Pos} {Q:VSP} (I:Inv X pins σ H s) (hg:Gl X x) (hm:X.mg x=none) (hv:bootBuiltins x=some u) (h:Q u s)
 (hn:x≠"__name__":=by decide) (hd:(x==("__debug__":Str))=false:=by decide):wpAny (model X.prog X.w) X.A (eval (.Name x pos) X.env) Q E s:=by
 obtain⟨mb,h1,h2⟩:=I.mod.blt;exact Calls.Name_function_global I.ok.kind hg (Calls.loadGlobal_builtin (by rw[I.ok.glob];exact I.mod.glob.keeps I.bk) hm (by rw[I.ok.blt];exact h1.keeps I.bk) ((h2 x hn).trans hv) h) hd
theorem ju {x:Str} {v:V} {u:Value} {pos:Pos} (hg:Gl X x) (hm:X.mg x=some u) (r:aT v u) (hd:(x==("__debug__":Str))=false:=by decide):PE X (.Name x pos) (tC v) :=
 fun _ _ _ H _ I h=>mG I hg hm ⟨v,H,I,r,h⟩ hd
theorem eo {x:Str} {v:V} {u:Value} {pos:Pos} (hg:Gl X x) (hm:X.mg x=none) (hv:bootBuiltins x=some u) (r:aT v u) (hn:x≠"__name__":=by decide) (hd:(x==("__debug__":Str))=false:=by decide):PE X (.Name x pos) (tC v) :=
 fun _ _ _ H _ I h=>cW I hg hm hv ⟨v,H,I,r,h⟩ hn hd
variable {a b:Expr} {ta tb:TE} {pos:Pos}
def tB (t:TE):TT:=fun σ H Q=>t σ H fun x H1=>BlR x H1 Q
theorem cV {e:Expr} {t:TE} (h:PE X e t) (he:∀ whole,isTrue e X.env whole=(do let v ← whole;standAt e.pos;holding [v] (truthy v)):=by intro _;rfl):PT X e (tB t):=by
 intro pins s σ H Q I hw;refine isTrue_plain (thn (h pins s σ H _ I hw) fun v s1 zy6=>?_) (he _);obtain⟨x,H1,I1,r1,q1⟩:=zy6;obtain⟨d,rfl,q⟩:=q1;cases r1;exact wpAny_truthy_bool ⟨H1,I1,q⟩
variable {tA tB':TT} {d7:List Expr}
def vj (t u:TT):TT:=fun σ H Q=>t σ H fun c H1=>if c=true then u σ H1 Q else Q false H1
def tOr (t u:TT):TT:=fun σ H Q=>t σ H fun c H1=>if c=true then Q true H1 else u σ H1 Q
def xq (t:TT):TT:=fun σ H Q=>t σ H fun c H1=>Q (!c) H1
theorem bn (ha:PT X a tA):PW X (.BoolOp .And [a] pos) tA:=by
 intro wh pins s σ H Q I h;refine isTrue_and (thn (ha pins s σ H Q I h) fun c s1 e=>?_);cases c with
 | true=>exact isTrue_and_nil e
 | false=>exact e
theorem dS (ha:PT X a tA):PW X (.BoolOp .Or [a] pos) tA:=by
 intro wh pins s σ H Q I h;refine isTrue_or (thn (ha pins s σ H Q I h) fun c s1 e=>?_);cases c with
 | false=>exact isTrue_or_nil e
 | true=>exact e
theorem b8 (ha:PT X a tA) (hb:PW X (.BoolOp .And (b::d7) pos) tB'):PW X (.BoolOp .And (a::b::d7) pos) (vj tA tB'):=by
 intro wh pins s σ H Q I h;refine isTrue_and (thn (ha pins s σ H _ I h) fun c s1 zy7=>?_);obtain⟨H1,I1,q1⟩:=zy7;cases c with
 | true=>exact hb wh pins s1 σ H1 Q I1 q1
 | false=>exact⟨H1,I1,q1⟩
theorem gn (ha:PT X a tA) (hb:PW X (.BoolOp .Or (b::d7) pos) tB'):PW X (.BoolOp .Or (a::b::d7) pos) (tOr tA tB'):=by
 intro wh pins s σ H Q I h;refine isTrue_or (thn (ha pins s σ H _ I h) fun c s1 zy8=>?_);obtain⟨H1,I1,q1⟩:=zy8;cases c with
 | true=>exact⟨H1,I1,q1⟩
 | false=>exact hb wh pins s1 σ H1 Q I1 q1
theorem gZ (ha:PT X a tA):PT X (.UnaryOp .Not a pos) (xq tA):=by
 intro pins s σ H Q I h;exact isTrue_not (ha pins s σ H (fun c H1=>Q (!c) H1) I h)
def xB (ta tb:TE):TE:=fun σ H Q=>ta σ H fun x H1=>∃ c,x=.bl c∧if c=true then tb σ H1 Q else Q (.bl false) H1
def Bi (ta tb:TE):TE:=fun σ H Q=>ta σ H fun x H1=>∃ c,x=.bl c∧if c=true then Q (.bl true) H1 else tb σ H1 Q
def xp (ta:TE):TE:=fun σ H Q=>ta σ H fun x H1=>∃ c,x=.bl c∧Q (.bl (!c)) H1
def tIf (t:TT) (ta tb:TE):TE:=fun σ H Q=>t σ H fun c H1=>if c=true then ta σ H1 Q else tb σ H1 Q
theorem ib {c:Expr} (hc:PT X c tA) (ha:PE X a ta) (hb:PE X b tb):PE X (.IfExp c a b pos) (tIf tA ta tb):=by
 intro pins s σ H Q I h;refine wpAny_IfExp (thn (hc pins s σ H _ I h) fun d s1 zy12=>?_);obtain⟨H1,I1,q1⟩:=zy12;cases d with
 | true=>exact ha pins s1 σ H1 Q I1 q1
 | false=>exact hb pins s1 σ H1 Q I1 q1
end
def SqL (K:Fg) (H:Hp) (a:Addr) (xs:List V):Prop :=
  Rd H a (.lst xs) ∨
    ∃ (o:Obj) (its:Array Value) (n:Nat),K.lookup a=some o∧o.cls=.type "list"∧o.dict=none∧o.data=.seq its n∧its.size≤sizeLine∧aQ xs its.toList
def SqT (K:Fg) (H:Hp) (a:Addr) (xs:List V):Prop :=
  Rd H a (.tup xs) ∨
    ∃ (o:Obj) (its:Array Value) (n:Nat),K.lookup a=some o∧o.cls=.type "tuple"∧o.data=.seq its n∧its.size≤sizeLine∧aQ xs its.toList
def D1:Value→Option V
  | .none=>some .non
  | .bool b=>some (.bl b)
  | .int i _=>some (.int i)
  | .str x _=>some (.str x)
  | .bytes b _=>some (.byt b)
  | .float b _=>some (.flt b)
  | .ref a=>some (.ref a)
  | .type n=>some (.ty n)
  | _=>none
theorem aT.abs {x:V} {u:Value} (r:aT x u):D1 u=some x:=by
 cases x with
 | non=>cases r;rfl
 | bl _=>cases r;rfl
 | int _=>obtain⟨t,rfl⟩:=r;rfl
 | str _=>obtain⟨t,rfl⟩:=r;rfl
 | byt _=>obtain⟨t,rfl⟩:=r;rfl
 | flt _=>obtain⟨t,rfl⟩:=r;rfl
 | ref _=>cases r;rfl
 | ty _=>cases r;rfl
theorem aT.inj {x y:V} {u:Value} (r:aT x u) (q:aT y u):x=y:=Option.some.inj (r.abs.symm.trans q.abs)
theorem aQ.inj:∀ {xs ys:List V} {us:List Value},aQ xs us→aQ ys us→xs=ys:=by
 intro xs ys us h
 induction h generalizing ys with
 | nil=>intro h';cases h';rfl
 | cons r t ih=>intro h';cases h' with | cons r' t'=>rw[r.inj r',ih t']
section
variable {X:Cx} {pins:AOs} {σ:St} {H:Hp} {s:Shared} {a:Addr} {xs ys:List V}
theorem SqL.of {K:Fg} (h:H a=some (.lst xs)):SqL K H a xs:=.inl (.inl h)
theorem SqT.of {K:Fg} (h:H a=some (.tup xs)):SqT K H a xs:=.inl (.inl h)
theorem Inv.list (I:Inv X pins σ H s) (h:SqL X.K H a xs):∃ its:List Value,aQ xs its∧PlainL s.heap a its.toArray∧xs.length≤sizeLine:=by
 rcases h with h | ⟨o,its,n,hk,hc,hd,hs,hz,r⟩
 · obtain⟨z,its,n,r,e⟩:=h.ok I.hok;exact⟨its,r,⟨_,n,e,rfl,rfl,rfl⟩,z⟩
 · refine⟨its.toList,r,⟨o,n,I.kIn a o hk,hc,hd,by simpa using hs⟩,?_⟩;have e:=r.length;simp only[Array.length_toList] at e;lia
theorem Inv.tuple (I:Inv X pins σ H s) (h:SqT X.K H a xs):∃ its:List Value,aQ xs its∧IsTup s.heap a its.toArray∧xs.length≤sizeLine:=by
 rcases h with h | ⟨o,its,n,hk,hc,hs,hz,r⟩
 · obtain⟨z,its,r,p⟩:=h.ok I.hok;exact⟨its,r,p,z⟩
 · refine⟨its.toList,r,⟨o,I.kIn a o hk,hc,n,by simpa using hs⟩,?_⟩;have e:=r.length;simp only[Array.length_toList] at e;lia
theorem Inv.list_inj (I:Inv X pins σ H s) (h:SqL X.K H a xs) (h':SqL X.K H a ys):xs=ys:=by
 obtain⟨its,r,⟨o,n,e,_,_,d⟩,_⟩:=I.list h;obtain⟨its',r',⟨o',n',e',_,_,d'⟩,_⟩:=I.list h';rw[e] at e';cases e';rw[d] at d'
 injection d' with d1 _
 have:its=its':=by simpa using congrArg Array.toList d1
 subst this;exact r.inj r'
theorem Inv.tuple_inj (I:Inv X pins σ H s) (h:SqT X.K H a xs) (h':SqT X.K H a ys):xs=ys:=by
 obtain⟨its,r,⟨o,e,_,n,d⟩,_⟩:=I.tuple h;obtain⟨its',r',⟨o',e',_,n',d'⟩,_⟩:=I.tuple h';rw[e] at e';cases e';rw[d] at d'
 injection d' with d1 _
 have:its=its':=by simpa using congrArg Array.toList d1
 subst this;exact r.inj r'
end
abbrev Cx.wish (X:Cx) (E:VSP):Cx:={X with xe:=E}
abbrev Cx.nox (X:Cx):Cx:=X.wish fun _ _=>False
theorem Cx.Ok.wish {X:Cx} (ok:X.Ok) (E:VSP):(X.wish E).Ok :=
 ⟨ok.mod,ok.kind,ok.glob,ok.blt,ok.above,ok.inj,ok.has,ok.cab,ok.hd,ok.frames,ok.stk,ok.exf,ok.bs,ok.bsz,ok.noex,ok.exfs,ok.funs,ok.frf⟩
theorem Cx.Ok.unwish {X:Cx} {E:VSP} (ok:(X.wish E).Ok):X.Ok :=
 ⟨ok.mod,ok.kind,ok.glob,ok.blt,ok.above,ok.inj,ok.has,ok.cab,ok.hd,ok.frames,ok.stk,ok.exf,ok.bs,ok.bsz,ok.noex,ok.exfs,ok.funs,ok.frf⟩
section
variable {X:Cx} {pins:AOs} {σ:St} {H:Hp} {s:Shared} {E:VSP}
theorem Inv.wish (I:Inv X pins σ H s) (E:VSP):Inv (X.wish E) pins σ H s:=⟨I.ok.wish E,I.os,I.bare,I.base,I.loc,I.cell,I.free,I.freeC,I.pin,I.hok,I.len⟩
theorem Inv.unwish (I:Inv (X.wish E) pins σ H s):Inv X pins σ H s:=⟨I.ok.unwish,I.os,I.bare,I.base,I.loc,I.cell,I.free,I.freeC,I.pin,I.hok,I.len⟩
theorem SP.unwish {D:eO} {f:Flow} {s':Shared} (h:SP (X.wish E) pins D f s'):SP X pins D f s':=by
 cases f with
 | next=>obtain⟨σ',H',I,q⟩:=h;exact⟨σ',H',I.unwish,q⟩
 | brk=>obtain⟨σ',H',I,q⟩:=h;exact⟨σ',H',I.unwish,q⟩
 | cont=>obtain⟨σ',H',I,q⟩:=h;exact⟨σ',H',I.unwish,q⟩
 | ret u=>obtain⟨v,σ',H',I,r,q⟩:=h;exact⟨v,σ',H',I.unwish,r,q⟩
theorem PSs.nox {st:List Stmt} {t:TS} (h:PSs X.nox st t):PSs X st t:=fun pins s σ H D I hw =>
 wpAny_mono (h pins s σ H D (I.wish _) hw) (fun _ _ q=>q.unwish) fun _ _ z=>False.elim z
end
section
variable {X:Cx} {st:Stmt} {d7:List Stmt} {t u:TS} {e:Expr} {te:TE} {pos:Pos}
def tU:TS:=fun D σ H=>D.nx σ H
def v4 (t u:TS):TS:=fun D σ H=>t {D with nx:=u D} σ H
theorem aE:PSs X [] tU:=fun _ _ σ H _ I h=>wpAny_execs_nil ⟨σ,H,I,h⟩
theorem pE (h1:PS X st t) (h2:PSs X d7 u):PSs X (st::d7) (v4 t u):=by
 intro pins s σ H D I h;refine wpAny_execs_cons (thn (h1 pins s σ H {D with nx:=u D} I h) fun f s1 q=>?_);cases f with
 | next =>
  obtain⟨σ',H',I',q⟩:=q;exact h2 pins s1 σ' H' D I' q
 | ret v=>exact q
 | brk=>exact q
 | cont=>exact q
theorem pI (h1:PS X st t):PSs X [st] t:=by
 intro pins s σ H D I h;refine wpAny_execs_cons (thn (h1 pins s σ H D I h) fun f s1 q=>?_);cases f with
 | next=>exact wpAny_execs_nil q
 | ret v=>exact q
 | brk=>exact q
 | cont=>exact q
theorem Inv.quiet {pins:AOs} {σ:St} {H:Hp} {s:Shared} (I:Inv X pins σ H s):interactive X.env=false:=by simp[interactive,I.ok.kind]
def oR (te:TE):TS:=fun D σ H=>te σ H fun _ H1=>D.nx σ H1
theorem am (he:PE X e te) (hs:swapsWith e none pos.line X.env=pure false:=by rfl):PS X (.Expr e pos) (oR te):=by
 intro pins s σ H D I h;refine wpAny_Expr_any (thn (he pins s σ H _ I h) fun v s1 zy13=>?_) I.quiet hs;obtain⟨x,H1,I1,r1,q1⟩:=zy13;exact⟨σ,H1,I1,q1⟩
def xo (te:TE):TS:=fun D σ H=>te σ H D.rt
theorem az (he:PE X e te):PS X (.Return (some e) pos) (xo te):=by
 intro pins s σ H D I h;refine wpAny_Return_some (thn (he pins s σ H _ I h) fun v s1 zy14=>?_);obtain⟨x,H1,I1,r1,q1⟩:=zy14;exact⟨x,σ,H1,I1,r1,q1⟩
def v9 (c:TT) (t u:TS):TS:=fun D σ H=>c σ H fun b H1=>if b=true then t D σ H1 else u D σ H1
theorem aN {c:Expr} {a b:List Stmt} {tc:TT} (hc:PT X c tc) (ha:PSs X a t) (hb:PSs X b u):PS X (.If c a b pos) (v9 tc t u):=by
 intro pins s σ H D I h;refine wpAny_If (thn (hc pins s σ H _ I h) fun d s1 zy15=>?_);obtain⟨H1,I1,q1⟩:=zy15;cases d with
 | true=>exact ha pins s1 σ H1 D I1 q1
 | false=>exact hb pins s1 σ H1 D I1 q1
end
abbrev TG:=V→St→Hp→(St→Hp→Prop)→Prop
abbrev TGs:=List V→St→Hp→(St→Hp→Prop)→Prop
def PG (X:Cx) (target:Expr) (t:TG):Prop :=
  ∀ (pins:AOs) (s:Shared) (σ:St) (H:Hp) (v:V) (u:Value) (Q:St→Hp→Prop),Inv X pins σ H s→aT v u→t v σ H Q →
    wpAny (model X.prog X.w) X.A (assign target X.env u) (fun _ s'=>∃ σ' H',Inv X pins σ' H' s'∧Q σ' H') X.xe s
def PGs (X:Cx) (ts:List Expr) (t:TGs):Prop :=
  ∀ (pins:AOs) (s:Shared) (σ:St) (H:Hp) (vs:List V) (us:List Value) (Q:St→Hp→Prop),Inv X pins σ H s→aQ vs us→t vs σ H Q →
    wpAny (model X.prog X.w) X.A (assignInOrder ((assignEach ts X.env).map (·.2)) us) (fun _ s'=>∃ σ' H',Inv X pins σ' H' s'∧Q σ' H') X.xe s
abbrev TIp:=V→V→Hp→VK→Prop
def PIp (X:Cx) (op:Operator) (t:TIp):Prop :=
  ∀ (pins:AOs) (s:Shared) (σ:St) (H:Hp) (x y:V) (v u:Value) (Q:VK),Inv X pins σ H s→aT x v→aT y u→t x y H Q →
    wpAny (model X.prog X.w) X.A (inplaceOp op v u) (EP X pins σ Q) X.xe s
section
variable {X:Cx} {pos:Pos}
def eT (i:Nat):TG:=fun v σ H Q=>Q (σ.set i (some v)) H
theorem ae {i:Nat} {x:Str} (hN:X.N.Nodup) (hi:X.N[i]?=some x) (hx:Loc X.env.scope x) (hf:X.fn x=true∨X.env.scope.names.lookup x=some .local:=by first | exact .inl rfl | exact .inr rfl | assumption):PG X (.Name x pos) (eT i):=by
 intro pins s σ H v u Q I r h;exact wpAny_assign_Name (gQ I hN hi hx r (fun s' I'=>⟨_,H,I',h⟩) hf)
def AA:TGs:=fun vs σ H Q=>vs=[]∧Q σ H
inductive rA (t:TG) (u:TGs) (vs:List V) (σ:St) (H:Hp) (Q:St→Hp→Prop):Prop
  | mk (v:V) (r:List V) (h:vs=v::r) (q:t v σ H fun σ' H'=>u r σ' H' Q):rA t u vs σ H Q
def qy (t:TG) (u:TGs):TGs:=fun vs σ H Q=>rA t u vs σ H Q
theorem cE:PGs X [] AA:=by
 intro pins s σ H vs us Q I r h;obtain⟨e,h⟩:=h;subst e;cases r;exact assignInOrder_nil ⟨σ,H,I,h⟩
theorem aP {e:Expr} {es:List Expr} {t:TG} {u:TGs} (h1:PG X e t) (h2:PGs X es u)
 (hs:(assignEach (e::es) X.env).map (·.2)=assign e X.env::(assignEach es X.env).map (·.2):=by rfl):PGs X (e::es) (qy t u):=by
 intro pins s σ H vs us Q I r h;obtain⟨v,vr,e1,h⟩:=h;subst e1;cases r with
 | cons r rr =>
  rw[hs];refine assignInOrder_cons (thn (h1 pins s σ H _ _ _ I r h) fun _ s1 zy16=>?_);obtain⟨σ1,H1,I1,q1⟩:=zy16;exact h2 pins s1 σ1 H1 _ _ Q I1 rr q1
inductive uS (K:Fg) (n:Nat) (t:TGs) (v:V) (σ:St) (H:Hp) (Q:St→Hp→Prop):Prop
  | mk (a:Addr) (xs:List V) (h:v=.ref a) (s:SqT K H a xs) (l:xs.length=n) (q:t xs σ H Q):uS K n t v σ H Q
def Az (K:Fg) (n:Nat) (t:TGs):TG:=fun v σ H Q=>uS K n t v σ H Q
theorem dh {es:List Expr} {k:Nat} {t:TGs} {n:Nat} (hc:X.calm=true) (h:PGs X es t)
 (hn:(assignEach es X.env).length=n:=by rfl) (hst:(assignEach es X.env).findIdx? (·.1)=none:=by rfl):PG X (.Tuple es k pos) (Az X.K n t):=by
 intro pins s σ H v u Q I r hw;obtain⟨a,xs,e1,hq,hl,hw⟩:=hw;subst e1;cases r;obtain⟨its,rv,ht,hz⟩:=I.tuple hq;refine assign_Tuple_tuple (I.ok.hd hc) ht (by simp[hn,← hl,rv.length]) hst fun h' hx=>?_;have I1:Inv X pins σ H {s with heap:=h'}:=I.kept (t':=s.toks) fun b o e=>hx b o (Nat.ne_of_lt (Heap.lt_size e)) e;exact h pins _ σ H xs _ Q I1 (by simpa using rv) hw
def rM (te:TE) (g:TG):TS:=fun D σ H=>te σ H fun x H1=>g x σ H1 D.nx
theorem jp {tg e:Expr} {te:TE} {g:TG} (he:PE X e te) (hg:PG X tg g) (hs:swapsWithSole [tg] e pos.line X.env=pure false:=by rfl) (hw:swappedStores [tg] e X.env=pure none:=by rfl)
 (h1:(assignEach [tg] X.env).map (·.2)=[assign tg X.env]:=by rfl):PS X (.Assign [tg] e pos) (rM te g):=by
 intro pins s σ H D I h;refine wpAny_Assign_stores (thn (he pins s σ H _ I h) fun v s1 zy20=>?_) hs hw;obtain⟨x,H1,I1,r1,q1⟩:=zy20;rw[h1];exact thn (hg pins s1 σ H1 x v _ I1 r1 q1) fun _ s2 q=>q
theorem pN {i:Nat} {x:Str} {e:Expr} {te:TE} {pos':Pos} (hN:X.N.Nodup) (hi:X.N[i]?=some x) (hx:Loc X.env.scope x) (he:PE X e te) (hs:swapsWith e (some (.Name x pos')) pos.line X.env=pure false:=by rfl) (hf:X.fn x=true∨X.env.scope.names.lookup x=some .local:=by first | exact .inl rfl | exact .inr rfl | assumption) :
 PS X (.Assign [.Name x pos'] e pos) (rM te (eT i)):=by
 intro pins s σ H D I h;refine wpAny_Assign_Name (thn (he pins s σ H _ I h) fun v s1 zy21=>?_) hs;obtain⟨y,H1,I1,r1,q1⟩:=zy21;exact gQ I1 hN hi hx r1 (fun s2 I2=>⟨_,H1,I2,q1⟩) hf
def Bj (i:Nat) (te:TE) (ti:TIp):TS:=fun D σ H=>∃ x,σ[i]?=some (some x)∧te σ H fun y H1=>ti x y H1 fun z H2=>D.nx (σ.set i (some z)) H2
theorem hV {i:Nat} {x:Str} {e:Expr} {te:TE} {op:Operator} {ti:TIp} {pos':Pos} (hN:X.N.Nodup) (hi:X.N[i]?=some x) (hx:Loc X.env.scope x) (he:PE X e te) (ho:PIp X op ti) (hf:X.fn x=true∨X.env.scope.names.lookup x=some .local:=by first | exact .inl rfl | exact .inr rfl | assumption) :
 PS X (.AugAssign (.Name x pos') op e pos) (Bj i te ti):=by
 intro pins s σ H D I h;obtain⟨v,e1,h⟩:=h;obtain⟨m,hn,hl⟩:=I.loc;have vis:Vis X.env.scope x:=by rcases hx with k | k;exact .inl k;exact .inr (.inl k)
 obtain⟨u,r,l⟩:=hl i x v hi e1 vis;refine wpAny_AugAssign_Name ?_;have go:wpAny (model X.prog X.w) X.A (eval e X.env) (fun w s₂=>wpAny (model X.prog X.w) X.A (inplaceOp op u w) (fun r s₃=>wpAny (model X.prog X.w) X.A (storeName X.env x r) (fun _=>SP X pins D .next) X.xe s₃) X.xe s₂) X.xe s:=by
  refine thn (he pins s σ H _ I h) fun w s1 zy23=>?_;obtain⟨y,H1,I1,r1,q1⟩:=zy23;refine thn (ho pins s1 σ H1 v y u w _ I1 r r1 q1) fun z s2 zy24=>?_;obtain⟨zv,H2,I2,r2,q2⟩:=zy24;exact gQ I2 hN hi hx r2 (fun s3 I3=>⟨_,H2,I3,q2⟩) hf
 rcases l with ⟨hk,hm⟩ | ⟨hk,c,hc,hcell⟩
 · exact wpAny_loadName_local I.ok.kind hk hn hm go
 · rcases hk with hk | hk
   · exact wpAny_loadName_cell I.ok.kind hk hc hcell go
   · rcases hx with k | k
     · have:X.env.scope.names.lookup x=some .free:=hk;rw[k] at this;cases this
     · have:X.env.scope.names.lookup x=some .free:=hk;rw[k] at this;cases this
def ipI (f:Int→Int→Int):TIp:=fun x y H Q=>∃ i j,x=.int i∧y=.int j∧Q (.int (f i j)) H
theorem lJ:PIp X .Add (ipI fun i j=>i+j):=by
 intro pins s σ H x y v u Q I r1 r2 h;obtain⟨i,j,e1,e2,q⟩:=h;subst e1;subst e2;obtain⟨t,rfl⟩:=r1;obtain⟨t',rfl⟩:=r2;exact iadd_int ⟨.int _,H,I.tok _,⟨_,rfl⟩,q⟩
end
section
variable {X:Cx} {pos:Pos}
def uY (c:TT) (tb:TS):TS:=fun D σ H=>∃ W:Nat→St→Hp→Prop,(∃ m,W m σ H)∧∀ m σ H,W m σ H →
  c σ H fun b H1=>if b=true then ∃ N:St→Hp→Prop,(∀ σ' H',N σ' H'→∃ m',m'<m∧W m' σ' H')∧tb {D with nx:=N,ct:=N,bk:=D.nx} σ H1 else D.nx σ H1
theorem pZ {c:Expr} {body:List Stmt} {tc:TT} {tb:TS} (hp:PassesOwn (model X.prog X.w) X.A X.env X.xe) (hc:PT X c tc) (hb:PSs X body tb):PS X (.While c body [] pos) (uY tc tb):=by
 intro pins s σ H D I h;obtain⟨W,⟨m0,w0⟩,turn⟩:=h;refine wpAny_While (codeAny_whileLoop (fun n s'=>∃ σ' H',Inv X pins σ' H' s'∧W n σ' H') ?_ m0 ⟨σ,H,I,w0⟩);rintro n s1 ⟨σ1,H1,I1,w1⟩;refine wpAny_passesOwn hp (thn (hc pins s1 σ1 H1 _ I1 (turn n σ1 H1 w1)) fun b s2 zy31=>?_);obtain⟨H2,I2,q2⟩:=zy31;cases b with
 | true =>
  obtain⟨N,hN,q2⟩:=q2;rw[if_pos rfl];refine wpAny_passesOwn hp (thn (hb pins s2 σ1 H2 _ I2 q2) fun f s3 q3=>?_);cases f with
  | next =>
   obtain⟨σ3,H3,I3,n3⟩:=q3;obtain⟨m',hm,w3⟩:=hN σ3 H3 n3;exact⟨m',hm,σ3,H3,I3,w3⟩
  | cont =>
   obtain⟨σ3,H3,I3,n3⟩:=q3;obtain⟨m',hm,w3⟩:=hN σ3 H3 n3;exact⟨m',hm,σ3,H3,I3,w3⟩
  | brk=>exact q3
  | ret v=>exact q3
 | false =>
  rw[if_neg Bool.false_ne_true];exact wpAny_execs_nil ⟨σ1,H2,I2,q2⟩
end
structure It where
  go:Nat→Hp→Prop
  yld:Nat→Hp→V→Hp→Prop
  stop:Nat→Hp→Prop
def iy (X:Cx) (pins:AOs) (H:Hp) (b:Addr):Prop :=
  H b=none∧b≠X.env.locals∧b∉X.fs∧(b∈X.ex∨X.s₀.heap.objs.size≤b)∧(∀ x c,X.env.cells.lookup x=some c→c≠b)∧∀ p∈X.pn++pins,p.1≠b
theorem Inv.fpOk {X:Cx} {pins:AOs} {σ:St} {H H':Hp} {s:Shared} {b:Addr} (I:Inv X pins σ H s) (hb:s.heap.objs.size≤b) (hn:H' b=none):iy X pins H' b:=by
 refine⟨hn,Nat.ne_of_gt (Nat.lt_of_lt_of_le I.lt hb),I.nofs hb,.inr (Nat.le_trans I.sz hb),fun x c e z=>?_,fun p hp z=>?_⟩
 · obtain⟨v,q⟩:=I.cell x c e;exact absurd (Nat.lt_of_lt_of_le q.lt (by rw[z];exact hb)) (Nat.lt_irrefl _)
 · exact absurd (Nat.lt_of_lt_of_le (Heap.lt_size (I.pin p hp).1) (by rw[z];exact hb)) (Nat.lt_irrefl _)
structure lX (P:Program) (w:World) (K:Fg) (tg:Expr) (J:It) (fp:List Addr) (it:Addr) (tn:Nat→Heap→Prop):Prop where
  mem:it∈fp
  obj:∀ i h,tn i h→∀ b∈fp,∃ o,h.get? b=some o∧∀ v,o.data≠.cell v
  keep:∀ i h h',tn i h→(∀ b∈fp,∀ o,h.get? b=some o→h'.get? b=some o)→tn i h'
  item:∀ (X:Cx),X.prog=P→X.w=w→X.K=K→X.calm=true→∀ (i:Nat) (pins:AOs) (s:Shared) (σ:St) (H:Hp) (E:VSP),Inv X pins σ H s→(∀ b∈fp,iy X pins H b)→tn i s.heap→J.go i H →
    wpAny (model P w) X.A (pyNext (.ref it)) (fun r s1=>∃ u,r=some u ∧
      wpAny (model P w) X.A (letOwnedTupleGo tg (.ref it) u) (fun _ s2=>∃ x H',Inv X pins σ H' s2∧aT x u∧J.yld i H x H'∧tn (i+1) s2.heap∧∀ b∈fp,H' b=none) E s1) E s
  done:∀ (X:Cx),X.prog=P→X.w=w→X.K=K→X.calm=true→∀ (i:Nat) (pins:AOs) (s:Shared) (σ:St) (H:Hp) (E:VSP),Inv X pins σ H s→(∀ b∈fp,iy X pins H b)→tn i s.heap→J.stop i H →
    wpAny (model P w) X.A (pyNext (.ref it)) (fun r s1=>r=none∧Inv X pins σ H s1) E s
  self:∀ (A:Around) (i:Nat) (s:Shared) (Q:VSP) (E:VSP),tn i s.heap→Q (.ref it) s→wpAny (model P w) A (pyIter (.ref it)) Q E s
abbrev TI:=St→Hp→(It→Hp→Prop)→Prop
def PIE (X:Cx) (pins:AOs) (σ:St) (tg:Expr) (R:It→Hp→Prop) (itv:Value) (s2:Shared):Prop :=
  ∃ (it:Addr) (fp:List Addr) (tn:Nat→Heap→Prop) (J:It) (H':Hp),itv=.ref it∧Inv X pins σ H' s2∧lX X.prog X.w X.K tg J fp it tn∧tn 0 s2.heap∧(∀ b∈fp,iy X pins H' b)∧R J H'
def PI (X:Cx) (tg iter:Expr) (wi:TI):Prop :=
  ∀ (pins:AOs) (s:Shared) (σ:St) (H:Hp) (R:It→Hp→Prop),Inv X pins σ H s→wi σ H R →
    wpAny (model X.prog X.w) X.A (eval iter X.env) (fun v s1=>wpAny (model X.prog X.w) X.A (pyIter v) (PIE X pins σ tg R) X.xe s1) X.xe s
theorem mK {M:Model} {A:Around} {E:VSP} {s:Shared} {tg:Expr} {it:Addr} {u:Value} {o:Obj} {n:String} {vs:Array Value} {Q:Unit→Shared→Prop} (ho:s.heap.get? it=some o) (hc:o.cls=.type n) (hd:o.data=.fields vs)
 (hn:["enumerate","zip","dict_itemiterator","dict_reverseitemiterator","odict_iterator","itertools.zip_longest","itertools.pairwise"].contains n=false) (hQ:Q () s):wpAny M A (letOwnedTupleGo tg (.ref it) u) Q E s:=by
 unfold letOwnedTupleGo;cases tg <;> first
  | exact wP hQ
  | (cases u <;> first
      | exact wP hQ
      | (refine wB (wpAny_load ho ?_)
         rw[hc,hd];show wpAny M A (if (["enumerate","zip","dict_itemiterator","dict_reverseitemiterator","odict_iterator","itertools.zip_longest","itertools.pairwise"].contains n&&vs[0]?==some (rawInt _))=true then _ else _) Q E s;rw[if_neg (by intro h;rw[hn,Bool.false_and] at h;cases h)];exact wP hQ))
def Itl (K:Fg) (a:Addr):It :=
  ⟨fun i H=>∃ xs x,SqL K H a xs∧xs[i]?=some x,fun i H x H'=>H'=H∧∀ xs,SqL K H a xs→xs[i]?=some x,fun i H=>∃ xs,SqL K H a xs∧xs.length≤i⟩
def Itt (K:Fg) (a:Addr):It :=
  ⟨fun i H=>∃ xs x,SqT K H a xs∧xs[i]?=some x,fun i H x H'=>H'=H∧∀ xs,SqT K H a xs→xs[i]?=some x,fun i H=>∃ xs,SqT K H a xs∧xs.length≤i⟩
def Itr (lo:Int) (n:Nat):It:=⟨fun i _=>i<n,fun i H x H'=>H'=H∧x=.int (lo+i),fun i _=>n≤i⟩
theorem nA {P:Program} {w:World} {K:Fg} {tg:Expr} (a it:Addr):lX P w K tg (Itl K a) [it] it (fun i h=>h.IsListIter it a i) where
 mem:=by simp
 obj:=fun i h st b hb=>by
  have e:b=it:=by simpa using hb
  subst e;obtain⟨o,e,c,d⟩:=st;exact⟨o,e,fun v z=>by rw[d] at z;cases z⟩
 keep:=fun i h h' st k=>st.at fun o e=>k it (by simp) o e
 item:=by
  intro X hP hw hK hc i pins s σ H E I hf st hg;subst hP hw hK;obtain⟨xs,x,hq,hx⟩:=hg;obtain⟨its,rv,p,hz⟩:=I.list hq;obtain⟨u,hu,ru⟩:=rv.get hx;obtain⟨f0,f1,f2,f3,f4,f5⟩:=hf it (by simp);refine wpAny_pyNext_list_item st p.isList (x:=u) (by simpa using hu) fun h' st' sb=>?_;have I1:Inv X pins σ H {s with heap:=h'}:=I.turned (t':=s.toks) (fun b o hb e=>(sb.2 b hb).trans e) f0 f1 f3 f4 f5;obtain⟨o,e,c,d⟩:=id st';exact⟨u,rfl,mK (s:={s with heap:=h'}) e c d (by decide) ⟨x,H,I1,ru,⟨rfl,fun ys hy=>by rw[I.list_inj hy hq];exact hx⟩,st',fun b hb=>(hf b hb).1⟩⟩
 done:=by
  intro X hP hw hK hc i pins s σ H E I hf st hg;subst hP hw hK;obtain⟨xs,hq,hx⟩:=hg;obtain⟨its,rv,p,hz⟩:=I.list hq;obtain⟨f0,f1,f2,f3,f4,f5⟩:=hf it (by simp);have hl:=rv.length;exact wpAny_pyNext_list_end (I.ok.hd hc) st p.isList (by simp;lia) fun h' eb=>⟨rfl,I.turned (t':=s.toks) (fun b o hb e=>eb b o hb e) f0 f1 f3 f4 f5⟩
 self:=fun _ _ _ _ _ st h=>wpAny_pyIter_listiter st h
theorem lh {P:Program} {w:World} {K:Fg} {tg:Expr} (a it:Addr):lX P w K tg (Itt K a) [it] it (fun i h=>h.IsTupleIter it a i) where
 mem:=by simp
 obj:=fun i h st b hb=>by
  have e:b=it:=by simpa using hb
  subst e;obtain⟨o,e,c,d⟩:=st;exact⟨o,e,fun v z=>by rw[d] at z;cases z⟩
 keep:=fun i h h' st k=>st.at fun o e=>k it (by simp) o e
 item:=by
  intro X hP hw hK hc i pins s σ H E I hf st hg;subst hP hw hK;obtain⟨xs,x,hq,hx⟩:=hg;obtain⟨its,rv,p,hz⟩:=I.tuple hq;obtain⟨u,hu,ru⟩:=rv.get hx;obtain⟨f0,f1,f2,f3,f4,f5⟩:=hf it (by simp);refine wpAny_pyNext_tuple_item st (show s.heap.IsTuple a its.toArray from p) (x:=u) (by simpa using hu) fun h' st' sb=>?_;have I1:Inv X pins σ H {s with heap:=h'}:=I.turned (t':=s.toks) (fun b o hb e=>(sb.2 b hb).trans e) f0 f1 f3 f4 f5;obtain⟨o,e,c,d⟩:=id st';exact⟨u,rfl,mK (s:={s with heap:=h'}) e c d (by decide) ⟨x,H,I1,ru,⟨rfl,fun ys hy=>by rw[I.tuple_inj hy hq];exact hx⟩,st',fun b hb=>(hf b hb).1⟩⟩
 done:=by
  intro X hP hw hK hc i pins s σ H E I hf st hg;subst hP hw hK;obtain⟨xs,hq,hx⟩:=hg;obtain⟨its,rv,p,hz⟩:=I.tuple hq;obtain⟨f0,f1,f2,f3,f4,f5⟩:=hf it (by simp);have hl:=rv.length;exact wpAny_pyNext_tuple_end (I.ok.hd hc) st (show s.heap.IsTuple a its.toArray from p) (by simp;lia) fun h' eb=>⟨rfl,I.turned (t':=s.toks) (fun b o hb e=>eb b o hb e) f0 f1 f3 f4 f5⟩
 self:=fun _ _ _ _ _ st h=>wpAny_pyIter_tupleiter st h
theorem li {P:Program} {w:World} {K:Fg} {tg:Expr} (it:Addr) (lo:Int) (n:Nat):lX P w K tg (Itr lo n) [it] it (fun i h=>IsRangeIter h it (lo+(i:Nat)*1) ((n:Int)-(i:Nat)) 1) where
 mem:=by simp
 obj:=fun i h st b hb=>by
  have e:b=it:=by simpa using hb
  subst e;exact⟨_,st,fun v z=>by
    have z':Data.fields _=Data.cell v:=z;cases z'⟩
 keep:=fun i h h' st k=>k it (by simp) _ st
 item:=by
  intro X hP hw hK hc i pins s σ H E I hf st hg;subst hP hw hK;obtain⟨f0,f1,f2,f3,f4,f5⟩:=hf it (by simp);have W:=Walks.range (prog:=X.prog) (w:=X.w) (I.ok.hd hc) it lo 1 n;refine W.item i s _ _ hg st fun v h' tk hv st' kk=>?_;obtain⟨t,rfl⟩:=hv;have I1:Inv X pins σ H {s with heap:=h',toks:=tk}:=I.turned (fun b o hb e=>kk b o (by simpa using hb) e) f0 f1 f3 f4 f5;refine⟨_,rfl,mK (s:={s with heap:=h',toks:=tk}) (n:="range_iterator") st' rfl rfl (by decide) ⟨.int (lo+i),H,I1,⟨t,?_⟩,⟨rfl,rfl⟩,st',fun b hb=>(hf b hb).1⟩⟩;rw[Int.mul_one]
 done:=by
  intro X hP hw hK hc i pins s σ H E I hf st hg;subst hP hw hK;obtain⟨f0,f1,f2,f3,f4,f5⟩:=hf it (by simp);exact wpAny_pyNext_range_end (I.ok.hd hc) st (by have:n≤i:=hg;lia) fun h' eb=>⟨rfl,I.turned (t':=s.toks) (fun b o hb e=>eb b o hb e) f0 f1 f3 f4 f5⟩
 self:=fun _ _ _ _ _ st h=>wpAny_pyIter_rangeiter st h
section
variable {X:Cx} {tg:Expr}
def u9 (K:Fg) (tl:TE):TI:=fun σ H R=>tl σ H fun x H1=>∃ a,x=.ref a∧(∃ xs,SqL K H1 a xs)∧R (Itl K a) H1
def BY (K:Fg) (tl:TE):TI:=fun σ H R=>tl σ H fun x H1=>∃ a,x=.ref a∧(∃ xs,SqT K H1 a xs)∧R (Itt K a) H1
theorem bu {l:Expr} {tl:TE} (hl:PE X l tl):PI X tg l (u9 X.K tl):=by
 intro pins s σ H R I h;refine thn (hl pins s σ H _ I h) fun v s1 zy32=>?_;obtain⟨x,H1,I1,r1,q1⟩:=zy32;obtain⟨a,e,⟨xs,hq⟩,q⟩:=q1;subst e;cases r1;obtain⟨its,rv,p,hz⟩:=I1.list hq;refine wpAny_pyIter_list p.isList ?_;refine⟨s1.heap.objs.size,[s1.heap.objs.size],_,_,H1,rfl,I1.kept (t':=s1.toks) fun b o e=>hpS _ e,nA a _,⟨_,Heap.get?_push_size _ rfl,rfl,rfl⟩,fun b hb=>?_,q⟩;have e:b=s1.heap.objs.size:=by simpa using hb
 subst e;exact I1.fpOk (Nat.le_refl _) (I1.hok.fresh (Nat.le_refl _))
theorem eZ {l:Expr} {tl:TE} (hl:PE X l tl):PI X tg l (BY X.K tl):=by
 intro pins s σ H R I h;refine thn (hl pins s σ H _ I h) fun v s1 zy33=>?_;obtain⟨x,H1,I1,r1,q1⟩:=zy33;obtain⟨a,e,⟨xs,hq⟩,q⟩:=q1;subst e;cases r1;obtain⟨its,rv,p,hz⟩:=I1.tuple hq;refine wpAny_pyIter_tuple (show s1.heap.IsTuple a its.toArray from p) ?_;refine⟨s1.heap.objs.size,[s1.heap.objs.size],_,_,H1,rfl,I1.kept (t':=s1.toks) fun b o e=>hpS _ e,lh a _,⟨_,Heap.get?_push_size _ rfl,rfl,rfl⟩,fun b hb=>?_,q⟩;have e:b=s1.heap.objs.size:=by simpa using hb
 subst e;exact I1.fpOk (Nat.le_refl _) (I1.hok.fresh (Nat.le_refl _))
theorem km {pins:AOs} {σ:St} {H:Hp} {s:Shared} {R:It→Hp→Prop} {E:VSP} {lo hi:Int} {t u v:Tok} {tk:Nat} (I:Inv X pins σ H s) (h1:-(2 ^ 62)≤lo) (h2:lo<2 ^ 62) (h3:-(2 ^ 62)≤hi) (h4:hi<2 ^ 62)
 (q:R (Itr lo (hi-lo).toNat) H):wpAny (model X.prog X.w) X.A (pyIter (.ref s.heap.objs.size)) (PIE X pins σ tg R) E {s with heap:=s.heap.push {cls:=.type "range",data:=.fields #[.int lo t,.int hi u,.int 1 v]},toks:=tk}:=by
 refine wpAny_pyIter_range (IsRange.new ..) (small_one h1 h2 h3 h4) ?_;have I1:Inv X pins σ H {s with heap:=s.heap.push {cls:=.type "range",data:=.fields #[.int lo t,.int hi u,.int 1 v]},toks:=tk}:=I.kept fun b o e=>hpS _ e;refine⟨(s.heap.push {cls:=.type "range",data:=.fields #[.int lo t,.int hi u,.int 1 v]}).objs.size,[(s.heap.push {cls:=.type "range",data:=.fields #[.int lo t,.int hi u,.int 1 v]}).objs.size],_,_,H,rfl,
   I1.kept (t':=tk) fun b o e=>hpS _ e,li _ lo (hi-lo).toNat,?_,fun b hb=>?_,q⟩
 · have e1:lo+((0:Nat):Int)*1=lo:=by simp
   have e2:(((hi-lo).toNat:Nat):Int)-((0:Nat):Int)=Builtin.Range.rangeSize lo hi 1:=by rw[rangeSize_one];split <;> lia
   show IsRangeIter _ _ (lo+((0:Nat):Int)*1) ((((hi-lo).toNat:Nat):Int)-((0:Nat):Int)) 1;rw[e1,e2];exact Heap.get?_push_size _ rfl
 · have e:b=(s.heap.push {cls:=.type "range",data:=.fields #[.int lo t,.int hi u,.int 1 v]}).objs.size:=by simpa using hb
   subst e;exact I1.fpOk (Nat.le_refl _) (I1.hok.fresh (Nat.le_refl _))
def u8 (ta:TA):TI:=fun σ H R=>ta σ H fun vs H1=>∃ j:Int,vs=[.int j]∧-(2 ^ 62)≤j∧j<2 ^ 62∧R (Itr 0 j.toNat) H1
def zY (ta:TA):TI:=fun σ H R=>ta σ H fun vs H1=>∃ i j:Int,vs=[.int i,.int j]∧(-(2 ^ 62)≤i∧i<2 ^ 62∧-(2 ^ 62)≤j∧j<2 ^ 62)∧R (Itr i (j-i).toNat) H1
theorem bz {a:Expr} {ta:TA} {p pos:Pos} (hg:Gl X "range") (hm:X.mg "range"=none) (ha:PA X [a] ta) (hs:starEach [a] X.env=[(false,eval a X.env)]:=by rfl):PI X tg (.Call (.Name "range" p) [a] [] pos) (u8 ta):=by
 intro pins s σ H R I h;refine Call_ (cW I hg hm boot_range (PyProof.Rows.callWith_type1 (thn (ha pos pins s σ H _ I h) fun us s1 zy34=>?_) hs rfl));obtain⟨vs,H1,I1,r1,q1⟩:=zy34;obtain⟨j,e,q1,q2,q⟩:=q1;subst e;cases r1 with
 | cons r rr =>
  cases rr;obtain⟨t,rfl⟩:=r;exact call_range_1 (km I1 (by lia) (by lia) q1 q2 (by simpa using q))
theorem iT {a b:Expr} {ta:TA} {p pos:Pos} (hg:Gl X "range") (hm:X.mg "range"=none) (ha:PA X [a,b] ta) (hs:starEach [a,b] X.env=[(false,eval a X.env),(false,eval b X.env)]:=by rfl) (hs2:starEach [b] X.env=[(false,eval b X.env)]:=by rfl) :
 PI X tg (.Call (.Name "range" p) [a,b] [] pos) (zY ta):=by
 intro pins s σ H R I h;refine Call_ (cW I hg hm boot_range (PyProof.Rows.callWith_type1 (thn (ha pos pins s σ H _ I h) fun us s1 zy35=>?_) (by rw[hs,hs2]) (by rw[hs2];rfl)));obtain⟨vs,H1,I1,r1,q1⟩:=zy35;obtain⟨i,j,e,⟨q1,q2,q3,q4⟩,q⟩:=q1;subst e;cases r1 with
 | cons r rr =>
  cases rr with
  | cons r' rr =>
   cases rr;obtain⟨t,rfl⟩:=r;obtain⟨t',rfl⟩:=r';exact call_range_2 (km I1 q1 q2 q3 q4 q)
def xw (wi:TI) (g:TG) (tb:TS):TS:=fun D σ H=>wi σ H fun J H1=>∃ W:Nat→Nat→St→Hp→Prop,(∃ m,W 0 m σ H1)∧∀ i m σ H,W i m σ H →
  (J.stop i H∧D.nx σ H)∨(J.go i H∧∃ N:St→Hp→Prop,(∀ σ' H',N σ' H'→∃ m',m'<m∧W (i+1) m' σ' H')∧∀ x H',J.yld i H x H'→g x σ H' fun σ2 H2=>tb {D with nx:=N,ct:=N,bk:=D.nx} σ2 H2)
def ia (fp:List Addr) (h:Heap):AOs:=fp.filterMap fun b=>(h.get? b).map fun o=>(b,o)
theorem dE {fp:List Addr} {h:Heap} {b:Addr} {o:Obj} (hb:b∈fp) (e:h.get? b=some o):(b,o)∈ia fp h:=List.mem_filterMap.mpr ⟨b,hb,by rw[e];rfl⟩
theorem nL {fp:List Addr} {h:Heap} {p:Addr×Obj} (hp:p∈ia fp h):p.1∈fp∧h.get? p.1=some p.2:=by
 obtain⟨b,hb,e⟩:=List.mem_filterMap.mp hp;cases q:h.get? b with
 | none=>rw[q] at e;cases e
 | some o =>
  rw[q] at e;have e':(b,o)=p:=Option.some.inj e;subst e';exact⟨hb,q⟩
theorem Inv.pinned {pins:AOs} {σ:St} {H:Hp} {s:Shared} {fp:List Addr} (I:Inv X pins σ H s) (hf:∀ b∈fp,iy X pins H b) (ho:∀ b∈fp,∃ o,s.heap.get? b=some o∧∀ v,o.data≠.cell v):Inv X (pins++ia fp s.heap) σ H s :=
 I.pins_of fun p hp=>(mAp.mp hp).elim (fun z=>I.pin p (List.mem_append_right _ z)) fun z=>by
  obtain⟨hb,e⟩:=nL z;obtain⟨f0,f1,f2,_⟩:=hf p.1 hb;obtain⟨o,e',d⟩:=ho p.1 hb;rw[e] at e';cases e';exact⟨e,f0,f1,f2,d⟩
theorem Inv.unpinned {pins pl:AOs} {σ:St} {H:Hp} {s:Shared} (I:Inv X (pins++pl) σ H s):Inv X pins σ H s:=I.pins_of fun p hp=>I.pin p (List.mem_append_right _ (List.mem_append_left _ hp))
theorem bp {iter:Expr} {body:List Stmt} {wi:TI} {g:TG} {tb:TS} {pos:Pos} (hp:PassesOwn (model X.prog X.w) X.A X.env X.xe) (hc:X.calm=true) (hi:PI X tg iter wi) (hg:PG X tg g) (hb:PSs X body tb)
 (hs:∀ x,foldedSetIterable iter X.env x=pure x:=by intro _;rfl):PS X (.For tg iter body [] pos) (xw wi g tb):=by
 intro pins s σ H D I h;refine wpAny_For (thn (hi pins s σ H _ I h) fun v s1 h1=>thn h1 fun itv s2 h2=>?_) hs;obtain⟨it,fp,tn,J,H2,e,I2,T,st2,f2,W,⟨m0,w0⟩,turn⟩:=h2;subst e;have stat:∀ {H':Hp},(∀ b∈fp,H' b=none)→∀ b∈fp,iy X pins H' b:=fun hn b hb=>⟨hn b hb,(f2 b hb).2⟩;refine codeAny_forLoop_any (fun n s'=>∃ i σ' H',Inv X pins σ' H' s'∧tn i s'.heap∧(∀ b∈fp,H' b=none)∧W i n σ' H') ?_ m0 ⟨0,σ,H2,I2,st2,fun b hb=>(f2 b hb).1,w0⟩;rintro n s3 ⟨i,σ3,H3,I3,st3,fr3,w3⟩
 rcases turn i n σ3 H3 w3 with ⟨stop,qn⟩ | ⟨go,N,hN,step⟩
 · refine wpAny_passesOwn hp (thn (T.done X rfl rfl rfl hc i pins s3 σ3 H3 X.xe I3 (stat fr3) st3 stop) fun r s4 zy36=>?_);obtain⟨hr,I4⟩:=zy36;subst hr;exact wpAny_execs_nil ⟨σ3,H3,I4,qn⟩
 · refine wpAny_passesOwn hp (thn (T.item X rfl rfl rfl hc i pins s3 σ3 H3 X.xe I3 (stat fr3) st3 go) fun r s4 zy37=>?_);obtain⟨u,hr,h4⟩:=zy37;subst hr;refine wpAny_passesOwn hp (thn h4 fun _ s5 zy38=>?_);obtain⟨x,H5,I5,r5,y5,st5,fr5⟩:=zy38;have I5':=I5.pinned (stat fr5) (T.obj _ _ st5);refine wpAny_passesOwn hp (thn (hg _ s5 σ3 H5 x u _ I5' r5 (step x H5 y5)) fun _ s6 zy39=>?_);obtain⟨σ6,H6,I6,q6⟩:=zy39;refine wpAny_passesOwn hp (thn (hb _ s6 σ6 H6 _ I6 q6) fun f s7 q7=>?_);have again:∀ {σ7:St} {H7:Hp},Inv X (pins++ia fp s5.heap) σ7 H7 s7→N σ7 H7→∃ m,m<n∧∃ i σ' H',Inv X pins σ' H' s7∧tn i s7.heap∧(∀ b∈fp,H' b=none)∧W i m σ' H':=fun {σ7 H7} I7 n7=>by
    obtain⟨m',hm,w7⟩:=hN σ7 H7 n7;refine⟨m',hm,i+1,σ7,H7,I7.unpinned,T.keep _ _ _ st5 fun b hb o e=>(I7.pin (b,o) (List.mem_append_right _ (List.mem_append_right _ (dE hb e)))).1,fun b hb=>?_,w7⟩;obtain⟨o,e,d⟩:=T.obj _ _ st5 b hb;exact (I7.pin (b,o) (List.mem_append_right _ (List.mem_append_right _ (dE hb e)))).2.1
   cases f with
   | next=>obtain⟨σ7,H7,I7,n7⟩:=q7;exact again I7 n7
   | cont=>obtain⟨σ7,H7,I7,n7⟩:=q7;exact again I7 n7
   | brk=>obtain⟨σ7,H7,I7,q7⟩:=q7;exact⟨σ7,H7,I7.unpinned,q7⟩
   | ret v=>obtain⟨x7,σ7,H7,I7,r7,q7⟩:=q7;exact⟨x7,σ7,H7,I7.unpinned,r7,q7⟩
end
abbrev R2:=V→V→Hp→VK→Prop
def OpR (X:Cx) (f:Value→Value→Sem Value) (r:R2):Prop :=
  ∀ (pins:AOs) (s:Shared) (σ:St) (H:Hp) (x y:V) (v u:Value) (Q:VK),Inv X pins σ H s→aT x v→aT y u→r x y H Q →
    wpAny (model X.prog X.w) X.A (f v u) (EP X pins σ Q) X.xe s
def UnR (X:Cx) (f:Value→Sem Value) (r:V→Hp→VK→Prop):Prop :=
  ∀ (pins:AOs) (s:Shared) (σ:St) (H:Hp) (x:V) (v:Value) (Q:VK),Inv X pins σ H s→aT x v→r x H Q →
    wpAny (model X.prog X.w) X.A (f v) (EP X pins σ Q) X.xe s
def fX (X:Cx) (f:Value) (r:List V→Hp→VK→Prop):Prop :=
  ∀ (pins:AOs) (s:Shared) (σ:St) (H:Hp) (xs:List V) (us:List Value) (Q:VK),Inv X pins σ H s→aQ xs us→r xs H Q →
    wpAny (model X.prog X.w) X.A (call f us) (EP X pins σ Q) X.xe s
def D2 (X:Cx) (r:V→Hp→(Bool→Hp→Prop)→Prop):Prop :=
  ∀ (pins:AOs) (s:Shared) (σ:St) (H:Hp) (x:V) (v:Value) (Q:Bool→Hp→Prop),Inv X pins σ H s→aT x v→r x H Q →
    wpAny (model X.prog X.w) X.A (truthy v) (TP X pins σ Q) X.xe s
def tOp (r:R2) (ta tb:TE):TE:=fun σ H Q=>ta σ H fun x H1=>tb σ H1 fun y H2=>r x y H2 Q
def tUn (r:V→Hp→VK→Prop) (ta:TE):TE:=fun σ H Q=>ta σ H fun x H1=>r x H1 Q
def rI (C:Int→Int→Prop) (g:Int→Int→V):R2:=fun x y H Q=>uR x y H C g Q
def rI0 (g:Int→Int→V):R2:=fun x y H Q=>rq x y H g Q
def rU (g:Int→V):V→Hp→VK→Prop:=fun x H Q=>∃ i,x=.int i∧Q (g i) H
section
variable {X:Cx} {a b c:Expr} {ta tb tc:TE} {pos:Pos}
theorem wQ (ha:PE X a ta) (hb:PE X b tb) {pins:AOs} {s:Shared} {σ:St} {H:Hp} {R:V→V→Hp→Prop} (I:Inv X pins σ H s)
 (h:ta σ H fun x H1=>tb σ H1 fun y H2=>R x y H2) {Q:VSP} {f:Value→Value→Sem Value}
 (hf:∀ v u s2 x y H2,Inv X pins σ H2 s2→aT x v→aT y u→R x y H2→wpAny (model X.prog X.w) X.A (f v u) Q X.xe s2) :
 wpAny (model X.prog X.w) X.A (eval a X.env) (fun v s₁=>wpAny (model X.prog X.w) X.A (eval b X.env) (fun u s₂=>wpAny (model X.prog X.w) X.A (f v u) Q X.xe s₂) X.xe s₁) X.xe s:=by
 refine thn (ha pins s σ H _ I h) fun v s1 zy41=>?_;obtain⟨x,H1,I1,r1,q1⟩:=zy41;refine thn (hb pins s1 σ H1 _ I1 q1) fun u s2 zy42=>?_;obtain⟨y,H2,I2,r2,q2⟩:=zy42;exact hf v u s2 x y H2 I2 r1 r2 q2
theorem aC {op:Operator} {r:R2} (ho:OpR X (binaryOp op) r) (ha:PE X a ta) (hb:PE X b tb):PE X (.BinOp a op b pos) (tOp r ta tb):=by
 intro pins s σ H Q I h;exact wpAny_BinOp (wQ ha hb I h fun v u s2 x y H2 I2 rx ry q=>ho pins s2 σ H2 x y v u Q I2 rx ry q)
theorem iU {op:UnaryOp} {r:V→Hp→VK→Prop} (ho:UnR X (unaryOp op) r) (ha:PE X a ta):PE X (.UnaryOp op a pos) (tUn r ta):=by
 intro pins s σ H Q I h;refine UnaryOp_ (thn (ha pins s σ H _ I h) fun v s1 zy43=>?_);obtain⟨x,H1,I1,r1,q1⟩:=zy43;exact ho pins s1 σ H1 x v Q I1 r1 q1
theorem opI {f:Value→Value→Sem Value} {C:Int→Int→Prop} {g:Int→Int→Int}
 (rule:∀ (i j:Int) (t u:Tok) (s:Shared) (Q:VSP) (E:VSP),C i j→Q (.int (g i j) s.toks) {s with toks:=s.toks+1}→wpAny (model X.prog X.w) X.A (f (.int i t) (.int j u)) Q E s) :
 OpR X f (rI C fun i j=>.int (g i j)):=by
 intro pins s σ H x y v u Q I rx ry h;obtain⟨i,j,rfl,rfl,hc,q⟩:=h;obtain⟨t,rfl⟩:=rx;obtain⟨t',rfl⟩:=ry;exact rule i j t t' s _ _ hc ⟨.int (g i j),H,I.tok _,⟨_,rfl⟩,q⟩
theorem yS {f:Value→Value→Sem Value} {g:Int→Int→Int}
 (rule:∀ (i j:Int) (t u:Tok) (s:Shared) (Q:VSP) (E:VSP),Q (.int (g i j) s.toks) {s with toks:=s.toks+1}→wpAny (model X.prog X.w) X.A (f (.int i t) (.int j u)) Q E s) :
 OpR X f (rI0 fun i j=>.int (g i j)):=by
 intro pins s σ H x y v u Q I rx ry h;obtain⟨i,j,rfl,rfl,q⟩:=h;obtain⟨t,rfl⟩:=rx;obtain⟨t',rfl⟩:=ry;exact rule i j t t' s _ _ ⟨.int (g i j),H,I.tok _,⟨_,rfl⟩,q⟩
theorem vR {f:Value→Value→Sem Value} {g:Int→Int→Bool}
 (rule:∀ (i j:Int) (t u:Tok) (s:Shared) (Q:VSP) (E:VSP),Q (.bool (g i j)) s→wpAny (model X.prog X.w) X.A (f (.int i t) (.int j u)) Q E s) :
 OpR X f (rI0 fun i j=>.bl (g i j)):=by
 intro pins s σ H x y v u Q I rx ry h;obtain⟨i,j,rfl,rfl,q⟩:=h;obtain⟨t,rfl⟩:=rx;obtain⟨t',rfl⟩:=ry;exact rule i j t t' s _ _ ⟨.bl (g i j),H,I,rfl,q⟩
def D8 (i j:Int):Prop:=0<j∧j<1073741824
def D7 (i j:Int):Prop:=0≤j∧j≤1000000∧i.natAbs<2 ^ 64
def wX (i j:Int):Prop:=(-(2 ^ 64)<i∧i<2 ^ 64)∨(-(2 ^ 64)<j∧j<2 ^ 64)
theorem wX.ok {i j:Int} (h:wX i j):IntMulOk i j:=by
 rcases h with ⟨h1,h2⟩ | ⟨h1,h2⟩
 · exact .of_left (intBits_le_64 h1 h2)
 · exact .of_right (intBits_le_64 h1 h2)
theorem bI:OpR X (binaryOp .Add) (rI0 fun i j=>.int (i+j)):=yS fun _ _ _ _ _ _ _ q=>add_int q
theorem ck:OpR X (binaryOp .Sub) (rI0 fun i j=>.int (i-j)):=yS fun _ _ _ _ _ _ _ q=>sub_int q
theorem ie:OpR X (binaryOp .Mult) (rI wX fun i j=>.int (i*j)):=opI fun _ _ _ _ _ _ _ hc q=>mul_int q hc.ok
theorem jv:OpR X (binaryOp .FloorDiv) (rI D8 fun i j=>.int (i / j)):=opI fun i j _ _ _ _ _ hc q=>by
 have h1:(0:Int)<j:=hc.1;have h2:j<1073741824:=hc.2;exact floordiv_int (by lia) (by rw[Int.fdiv_eq_ediv_of_nonneg i (by lia)];exact q) (.inl (PyProof.noPylong_small (by lia)))
theorem dD:OpR X (binaryOp .Mod) (rI (fun _ j=>0<j) fun i j=>.int (i % j)):=opI fun i j _ _ _ _ _ hc q=>by
 have h1:(0:Int)<j:=hc;exact mod_int' (by lia) (by rw[Int.fmod_eq_emod_of_nonneg i (by lia)];exact q)
theorem vP:OpR X (binaryOp .Pow) (rI D7 fun i j=>.int (i ^ j.toNat)):=opI fun _ _ _ _ _ _ _ hc q=>pow_int_small hc.1 hc.2.1 hc.2.2 q
theorem unI {f:Value→Sem Value} {g:Int→Int}
 (rule:∀ (i:Int) (t:Tok) (s:Shared) (Q:VSP) (E:VSP),Q (.int (g i) s.toks) {s with toks:=s.toks+1}→wpAny (model X.prog X.w) X.A (f (.int i t)) Q E s) :
 UnR X f (rU fun i=>.int (g i)):=by
 intro pins s σ H x v Q I rx h;obtain⟨i,rfl,q⟩:=h;obtain⟨t,rfl⟩:=rx;exact rule i t s _ _ ⟨.int (g i),H,I.tok _,⟨_,rfl⟩,q⟩
theorem fY:UnR X (unaryOp .USub) (rU fun i=>.int (-i)):=unI fun _ _ _ _ _ q=>neg_int q
end
def rT:V→V→Bool
  | .non,.non=>true | .non,.int _=>true | .int _,.non=>true | .non,.bl _=>true | .bl _,.non=>true | .non,.str _=>true | .str _,.non=>true
  | .int _,.int _=>true | .bl _,.bl _=>true | .str _,.str _=>true | .byt _,.byt _=>true
  | .int _,.str _=>true | .str _,.int _=>true | .bl _,.str _=>true | .str _,.bl _=>true
  | _,_=>false
def rEq:R2:=fun x y H Q=>rT x y=true∧Q (.bl (decide (x=y))) H
def rNe:R2:=fun x y H Q=>rT x y=true∧Q (.bl (!decide (x=y))) H
theorem mM {i j:Int}:decide (V.int i=V.int j)=(i==j):=by
 rw[Bool.eq_iff_iff];simp
theorem qE {i j:Bool}:decide (V.bl i=V.bl j)=(i==j):=by
 rw[Bool.eq_iff_iff];simp
theorem mL {i j:Str}:decide (V.str i=V.str j)=(i==j):=by
 rw[Bool.eq_iff_iff];simp
theorem mN {i j:Array UInt8}:decide (V.byt i=V.byt j)=(i.toList==j.toList):=by
 rw[Bool.eq_iff_iff];cases i;cases j;simp
section
variable {X:Cx} {a b c:Expr} {ta tb tc:TE} {pos:Pos}
theorem b3 {pins:AOs} {σ:St} {H:Hp} {s:Shared} {Q:VK} {k k':Bool} (I:Inv X pins σ H s) (q:Q (.bl k) H) (e:k=k'):EP X pins σ Q (.bool k') s:=by
 subst e;exact⟨.bl k,H,I,rfl,q⟩
theorem aV:OpR X (compareOp .Eq) rEq:=by
 intro pins s σ H x y v u Q I rx ry h;obtain⟨hs,q⟩:=h;cases x with
 | non =>
  cases rx;cases y with
  | non=>cases ry;exact PySem.EqNone.eq_none_none (b3 I q (by simp))
  | bl j=>cases ry;exact PySem.EqNone.eq_none_bool (b3 I q (by simp))
  | int j=>obtain⟨t',rfl⟩:=ry;exact PySem.EqNone.eq_none_int (b3 I q (by simp))
  | str j=>obtain⟨t',rfl⟩:=ry;exact PySem.EqNone.eq_none_str (b3 I q (by simp))
  | _=>exact absurd (show false=true from hs) Bool.false_ne_true
 | bl i =>
  cases rx;cases y with
  | non=>cases ry;exact PySem.EqNone.eq_bool_none (b3 I q (by simp))
  | bl j=>cases ry;exact eq_bool (b3 I q qE)
  | str j=>obtain⟨t',rfl⟩:=ry;exact PySem.EqMixed.eq_bool_str (b3 I q (by simp))
  | _=>exact absurd (show false=true from hs) Bool.false_ne_true
 | int i =>
  obtain⟨t,rfl⟩:=rx;cases y with
  | non=>cases ry;exact PySem.EqNone.eq_int_none (b3 I q (by simp))
  | int j=>obtain⟨t',rfl⟩:=ry;exact eq_int (b3 I q mM)
  | str j=>obtain⟨t',rfl⟩:=ry;exact PySem.EqMixed.eq_int_str (b3 I q (by simp))
  | _=>exact absurd (show false=true from hs) Bool.false_ne_true
 | str i =>
  obtain⟨t,rfl⟩:=rx;cases y with
  | non=>cases ry;exact PySem.EqNone.eq_str_none (b3 I q (by simp))
  | bl j=>cases ry;exact PySem.EqMixed.eq_str_bool (b3 I q (by simp))
  | int j=>obtain⟨t',rfl⟩:=ry;exact PySem.EqMixed.eq_str_int (b3 I q (by simp))
  | str j=>obtain⟨t',rfl⟩:=ry;exact eq_str (b3 I q mL)
  | _=>exact absurd (show false=true from hs) Bool.false_ne_true
 | byt i =>
  obtain⟨t,rfl⟩:=rx;cases y with
  | byt j=>obtain⟨t',rfl⟩:=ry;exact PySem.W.eq_bytes (b3 I q mN)
  | _=>exact absurd (show false=true from hs) Bool.false_ne_true
 | _=>cases y <;> exact absurd (show false=true from hs) Bool.false_ne_true
theorem u5:OpR X (compareOp .NotEq) rNe:=by
 intro pins s σ H x y v u Q I rx ry h;obtain⟨hs,q⟩:=h;cases x with
 | non =>
  cases rx;cases y with
  | non=>cases ry;exact PySem.EqNone.ne_none_none (b3 I q (by simp))
  | bl j=>cases ry;exact PySem.EqNone.ne_none_bool (b3 I q (by simp))
  | int j=>obtain⟨t',rfl⟩:=ry;exact PySem.EqNone.ne_none_int (b3 I q (by simp))
  | str j=>obtain⟨t',rfl⟩:=ry;exact PySem.EqNone.ne_none_str (b3 I q (by simp))
  | _=>exact absurd (show false=true from hs) Bool.false_ne_true
 | bl i =>
  cases rx;cases y with
  | non=>cases ry;exact PySem.EqNone.ne_bool_none (b3 I q (by simp))
  | bl j=>cases ry;exact ne_bool (b3 I q (congrArg not qE))
  | str j=>obtain⟨t',rfl⟩:=ry;exact PySem.EqMixed.ne_bool_str (b3 I q (by simp))
  | _=>exact absurd (show false=true from hs) Bool.false_ne_true
 | int i =>
  obtain⟨t,rfl⟩:=rx;cases y with
  | non=>cases ry;exact PySem.EqNone.ne_int_none (b3 I q (by simp))
  | int j=>obtain⟨t',rfl⟩:=ry;exact ne_int (b3 I q (congrArg not mM))
  | str j=>obtain⟨t',rfl⟩:=ry;exact PySem.EqMixed.ne_int_str (b3 I q (by simp))
  | _=>exact absurd (show false=true from hs) Bool.false_ne_true
 | str i =>
  obtain⟨t,rfl⟩:=rx;cases y with
  | non=>cases ry;exact PySem.EqNone.ne_str_none (b3 I q (by simp))
  | bl j=>cases ry;exact PySem.EqMixed.ne_str_bool (b3 I q (by simp))
  | int j=>obtain⟨t',rfl⟩:=ry;exact PySem.EqMixed.ne_str_int (b3 I q (by simp))
  | str j=>obtain⟨t',rfl⟩:=ry;exact ne_str (b3 I q (congrArg not mL))
  | _=>exact absurd (show false=true from hs) Bool.false_ne_true
 | byt i =>
  obtain⟨t,rfl⟩:=rx;cases y with
  | byt j=>obtain⟨t',rfl⟩:=ry;exact PySem.W.ne_bytes (b3 I q (congrArg not mN))
  | _=>exact absurd (show false=true from hs) Bool.false_ne_true
 | _=>cases y <;> exact absurd (show false=true from hs) Bool.false_ne_true
theorem iV:OpR X (compareOp .Lt) (rI0 fun i j=>.bl (decide (i<j))):=vR fun _ _ _ _ _ _ _ q=>lt_int q
theorem iW:OpR X (compareOp .Gt) (rI0 fun i j=>.bl (decide (j<i))):=vR fun _ _ _ _ _ _ _ q=>gt_int q
theorem u7:OpR X (compareOp .GtE) (rI0 fun i j=>.bl (decide (j≤i))):=vR fun _ _ _ _ _ _ _ q=>ge_int q
theorem pP (b:Expr) {op:CmpOp} (h:op≠.In:=by decide) (h2:op≠.NotIn:=by decide):behindInMarks op b=false:=by
 have e1:(op==CmpOp.In)=false:=by cases op <;> first | rfl | exact absurd rfl h
 have e2:(op==CmpOp.NotIn)=false:=by cases op <;> first | rfl | exact absurd rfl h2
 cases b <;> simp[behindInMarks,e1,e2]
theorem mD {op:CmpOp} {r:R2} (ho:OpR X (compareOp op) r) (ha:PE X a ta) (hb:PE X b tb) (hm:behindInMarks op b=false):PE X (.Compare a [op] [b] pos) (tOp r ta tb):=by
 intro pins s σ H Q I h;exact wpAny_Compare1 (wQ ha hb I h fun v u s2 x y H2 I2 rx ry q=>ho pins s2 σ H2 x y v u Q I2 rx ry q) hm
def gl (t:TE):TT:=fun σ H Q=>t σ H fun x H'=>BlR x H' Q
theorem pO {op:CmpOp} {r:R2} (ho:OpR X (compareOp op) r) (ha:PE X a ta) (hb:PE X b tb) (hm:behindInMarks op b=false):PT X (.Compare a [op] [b] pos) (gl (tOp r ta tb)):=by
 intro pins s σ H Q I h;refine wpAny_isTrue_Compare1 (thn (ha pins s σ H _ I h) fun v s1 zy44=>?_) hm;obtain⟨x,H1,I1,r1,q1⟩:=zy44;refine thn (hb pins s1 σ H1 _ I1 q1) fun u s2 zy45=>?_;obtain⟨y,H2,I2,r2,q2⟩:=zy45;refine thn (ho pins s2 σ H2 x y v u _ I2 r1 r2 q2) fun c s3 zy46=>?_;obtain⟨z,H3,I3,r3,k,e,q3⟩:=zy46;subst e;cases r3;exact wpAny_truthy_bool ⟨H3,I3,q3⟩
def vi (r r':R2) (ta tb tc:TE):TE:=fun σ H Q=>ta σ H fun x H1=>tb σ H1 fun y H2=>r x y H2 fun z H3=>∃ k,z=.bl k ∧
  (if k=true then tc σ H3 fun w' H4=>r' y w' H4 Q else Q (.bl false) H3)
def AQ (K:Fg) (x:V) (H:Hp) (k:Bool):Prop :=
  match x with
  | .non=>k=false
  | .bl b=>k=b
  | .int i=>k=(i != 0)
  | .str y=>y.length≤sizeLine∧k=((y.length:Int) != 0)
  | .byt y=>y.size≤sizeLine∧k=((y.size:Int) != 0)
  | .ref p=>(∃ xs,SqL K H p xs∧k=!xs.isEmpty)∨(∃ xs,SqT K H p xs∧k=!xs.isEmpty)∨∃ kvs,H p=some (.dK kvs)∧k=!kvs.isEmpty
  | _=>False
theorem lI {κ:Type} {kvs:List (κ×V)} {vs:List (κ×Value)} (r:KV kvs vs):(!vs.isEmpty)=!kvs.isEmpty:=by
 cases r <;> rfl
theorem ip {xs:List V} {its:List Value} (r:aQ xs its):(!its.toArray.isEmpty)=!xs.isEmpty:=by
 cases r <;> simp
theorem ik:(sizeLine:Nat)<2 ^ 63:=by rw[sizeLine_eq];decide
theorem uW:D2 X (fun x H Q=>∃ k,AQ X.K x H k∧Q k H):=by
 intro pins s σ H x v Q I rx h;obtain⟨k,e,q⟩:=h;have hl:=ik;have hs:sizeLine=16777216:=sizeLine_eq;cases x with
 | non =>
  cases rx;have e':k=false:=e;subst e';exact truthy_none ⟨H,I,q⟩
 | bl b =>
  cases rx;have e':k=b:=e;subst e';exact wpAny_truthy_bool ⟨H,I,q⟩
 | int i =>
  obtain⟨t,rfl⟩:=rx;have e':k=(i != 0):=e;subst e';exact PySem.P.truthy_int ⟨H,I,q⟩
 | str y =>
  obtain⟨t,rfl⟩:=rx;obtain⟨hy,e'⟩:y.length≤sizeLine∧k=((y.length:Int) != 0):=e;subst e';exact PySem.P.truthy_str (by lia) ⟨H,I.tok _,q⟩
 | byt y =>
  obtain⟨t,rfl⟩:=rx;obtain⟨hy,e'⟩:y.size≤sizeLine∧k=((y.size:Int) != 0):=e;subst e';exact PySem.W.truthy_bytes (by lia) ⟨H,I.tok _,q⟩
 | ref p =>
  cases rx;have e':(∃ xs,SqL X.K H p xs∧k=!xs.isEmpty)∨(∃ xs,SqT X.K H p xs∧k=!xs.isEmpty)∨∃ kvs,H p=some (.dK kvs)∧k=!kvs.isEmpty:=e
  rcases e' with ⟨xs,hx,e'⟩ | ⟨xs,hx,e'⟩ | ⟨kvs,hx,e'⟩
  · subst e';obtain⟨its,r,pl,hz⟩:=I.list hx;have hlen:=r.length;exact wpAny_truthy_list pl.isList (by simp only[List.size_toArray];lia) ⟨H,I.tok _,by rw[ip r];exact q⟩
  · subst e';obtain⟨its,r,pl,hz⟩:=I.tuple hx;have hlen:=r.length;exact truthy_tuple pl (by simp only[List.size_toArray];lia) ⟨H,I.tok _,by rw[ip r];exact q⟩
  · subst e';obtain⟨hz,hS,vs,r,m⟩:kvs.length≤sizeLine∧(p==sysModules)=false∧∃ vs,KV kvs vs∧s.heap.DictOf (ax X.prog X.w) p vs:=I.hok p _ hx;have hlen:kvs.length=vs.length:=Paired.length r;exact wpAny_truthy_dict hS m (by lia) ⟨H,I.tok _,by rw[lI r];exact q⟩
 | _=>exact (show False from e).elim
theorem ky (ha:PE X a ta) (he:∀ whole,isTrue a X.env whole=(do let v ← whole;standAt a.pos;holding [v] (truthy v))) :
 PT X a (fun σ H Q=>ta σ H fun x H'=>∃ k,AQ X.K x H' k∧Q k H'):=by
 intro pins s σ H Q I h;refine isTrue_plain (thn (ha pins s σ H _ I h) fun v s1 zy56=>?_) (he _);obtain⟨x,H1,I1,r1,q1⟩:=zy56;exact uW pins s1 σ H1 x v Q I1 r1 q1
theorem lA:OpR X (binaryOp .Add) (fun x y H Q=>∃ i j,x=.str i∧y=.str j∧i.length+j.length≤sizeLine∧Q (.str (i++j)) H):=by
 intro pins s σ H x y v u Q I rx ry h;obtain⟨i,j,rfl,rfl,hz,q⟩:=h;obtain⟨t,rfl⟩:=rx;obtain⟨t',rfl⟩:=ry;exact add_str (fun t' tk=>⟨.str (i++j),H,I.tok _,⟨_,rfl⟩,q⟩) hz
theorem jV {x:V} {us:List Value} (r:aQ [x] us):∃ u,us=[u]∧aT x u:=by
 cases r with
 | cons r1 r2=>cases r2;exact⟨_,rfl,r1⟩
theorem jH:fX X (.type "str") (fun xs H Q=>∃ i,xs=[.int i]∧i.natAbs.log2<1920∧Q (.str (toString i)) H):=by
 intro pins s σ H xs us Q I r h;obtain⟨i,rfl,hz,q⟩:=h;obtain⟨u,rfl,t,rfl⟩:=jV r;exact PySem.P.str_of_int hz ⟨.str _,H,I.tok _,⟨_,rfl⟩,q⟩
end
structure wT (h:Heap) (x dx C:Addr) (mA:SOV):Prop where
  obj:h.get? x=some (PySem.W.instObj C dx)
  ns:h.Ns1 dx mA
  ne:dx≠x
theorem nP {h:Heap} {dx:Addr} {mA:SOV} (n:h.Ns1 dx mA):∃ od,h.get? dx=some od∧∀ name,PySem.W.lookIn name od=some (mA name):=by
 obtain⟨o,es,ep,ho,hd,hk,_,hm⟩:=n;refine⟨o,ho,fun name=>?_⟩;have e:=hm name;unfold nsFind findBy at e;rw[← Array.find?_toList] at e;unfold PySem.W.lookIn;rw[hd];dsimp only;split
 · rename_i y q
   rw[q] at e;exact congrArg some e
 · rename_i q
   rw[q] at e;have a:es.toList.any (·.refKey)=false:=by
    rw[List.any_eq_false];intro y hy;obtain⟨z,t,hkey⟩:=hk y (Array.mem_toList_iff.mp hy);simp[DictEntry.refKey,hkey]
   have a':¬ es.toList.any (·.refKey)=true:=by rw[a];exact Bool.false_ne_true
   rw[if_neg a'];exact congrArg some e
theorem wT.look {h:Heap} {x dx C:Addr} {mA:SOV} (I:wT h x dx C mA):∃ od,PySem.W.InstAt h x (PySem.W.instObj C dx) C (some od)∧∀ name,PySem.W.lookIn name od=some (mA name) :=
 let ⟨od,ho,hl⟩:=nP I.ns
 ⟨od,⟨I.obj,rfl,rfl,ho⟩,hl⟩
section
variable {prog:Program} {w:World} {A:Around} {E:VSP} {s:Shared} {K:Fg} {x dx C f:Addr} {mA:SOV} {name:Str} {v:Value}
end
def putF (f:Str) (v:V):List (Str×V)→List (Str×V)
  | []=>[(f,v)]
  | (g,x)::r=>if g=f then (g,v)::r else (g,x)::putF f v r
theorem fB.some_of {v:V} {o:Option Value} (r:fB (some v) o):∃ u,o=some u∧aT v u:=by
 cases o with
 | none=>exact (show False from r).elim
 | some u=>exact⟨u,rfl,r⟩
section
variable {P:Program} {w:World} {H H':Hp} {h h':Heap} {a C dx:Addr} {fs fs':List (Str×V)}
theorem sV (hok:HOk P w H h) (e:H a=some (.ins C dx fs)):∃ mA,wT h a dx C mA∧(∀ f,fB (fs.lookup f) (mA f))∧PySem.Within mA (fs.map (·.1))∧fs.length≤1000∧H dx=some (.own a):=by
 obtain⟨d,z,ne,ob,mA,n,r,q⟩:=(show bj P w H h a (.ins C dx fs) from hok a _ e);exact⟨mA,⟨ob,n,ne⟩,r,q,z,d⟩
end
structure Cls (K:Fg) (C:Addr):Prop where
  pg:PySem.W.plainGet K C Str.empty=true
  hd:PySem.W.hasDictIn K C=true
  po:PySem.W.plainOver K C=true
  sa:PySem.W.findIn K (.ref C) "__setattr__"=some (some (.builtin "object.__setattr__"))
theorem Cls.get {K:Fg} {C:Addr} (c:Cls K C) (f:Str):PySem.W.plainGet K C f=true:=c.pg
section
variable {X:Cx} {pins:AOs} {σ:St} {H:Hp} {s:Shared} {a C dx:Addr} {fs:List (Str×V)} {f:Str} {v:V} {A:Around} {E:VSP}
end
section
variable {X:Cx} {o e value:Expr} {f:Str} {pos pos' tpos:Pos} {ta tv:TE}
end
section
variable {X:Cx} {pins:AOs} {σ:St} {H:Hp} {s:Shared} {A:Around} {E:VSP} {Q:VSP} {c:Value} {b:Bool}
inductive gB (K:Fg) (H:Hp):V→Value→Prop where
  | non:gB K H .non (.type "NoneType")
  | bl (x:Bool):gB K H (.bl x) (.type "bool")
  | int (i:Int):gB K H (.int i) (.type "int")
  | str (x:Str):gB K H (.str x) (.type "str")
  | flt (x:UInt64):gB K H (.flt x) (.type "float")
  | lst {a:Addr} {xs:List V} (e:H a=some (.lst xs)):gB K H (.ref a) (.type "list")
  | frz {a:Addr} {o:Obj} {xs:List V} (e:H a=some (.frz o (.lst xs))):gB K H (.ref a) (.type "list")
  | tup {a:Addr} {xs:List V} (e:H a=some (.tup xs)):gB K H (.ref a) (.type "tuple")
  | dK {a:Addr} {kvs:List (Key×V)} (e:H a=some (.dK kvs)):gB K H (.ref a) (.type "dict")
  | dT {a:Addr} {kvs:List (List Key×V)} (e:H a=some (.dT kvs)):gB K H (.ref a) (.type "dict")
  | ins {a C dx:Addr} {fs:List (Str×V)} (e:H a=some (.ins C dx fs)) (cl:Cls K C) (ha:PySem.W.findIn K (.ref C) "__class__"=some (some (.builtin "object.__class__")))
      (hn:PySem.W.specialIn K (.builtin "object.__class__") "__get__"=some (some (.builtin "getset_descriptor.__get__"))) (htk:PySem.W.takesIn K (.builtin "object.__class__")=some true)
      (hm:PySem.W.mroIn K C (.type "object")=some true):gB K H (.ref a) (.ref C)
theorem gb {x:V} {u t:Value} (I:Inv X pins σ H s) (rx:aT x u) (ty:gB X.K H x t) (e:PySem.W.kitOne X.K t c=some b) (h:∀ tk,Q (.bool b) {s with toks:=tk}) :
 wpAny (model X.prog X.w) A (call (.builtin "isinstance") [u,c]) Q E s:=by
 cases ty with
 | non=>cases (show u=Value.none from rx);exact PySem.W.kia_one PySem.W.kitx_none I.kIn True.intro e (fun z=>nomatch z) h
 | bl y=>cases (show u=Value.bool y from rx);exact PySem.W.kia_one PySem.W.kitx_bool I.kIn True.intro e (fun z=>nomatch z) h
 | int i=>obtain⟨t,q⟩:=(show ∃ t,u=Value.int i t from rx);cases q;exact PySem.W.kia_one PySem.W.kitx_int I.kIn True.intro e (fun z=>nomatch z) h
 | str y=>obtain⟨t,q⟩:=(show ∃ t,u=Value.str y t from rx);cases q;exact PySem.W.kia_one PySem.W.kitx_str I.kIn True.intro e (fun z=>nomatch z) h
 | flt y=>obtain⟨t,q⟩:=(show ∃ t,u=Value.float y t from rx);cases q;exact PySem.W.kia_one PySem.W.kitx_float I.kIn True.intro e (fun z=>nomatch z) h
 | @lst a xs ea =>
  cases (show u=Value.ref a from rx);obtain⟨_,_,n,_,h1⟩:=(show bj X.prog X.w H s.heap a (.lst xs) from I.hok a _ ea);exact PySem.W.kia_one PySem.W.kitx_list I.kIn ⟨_,h1,rfl⟩ e (fun z=>nomatch z) h
 | @frz a ob xs ea =>
  cases (show u=Value.ref a from rx);obtain⟨_,_,_,n,_,h1⟩:=(show bj X.prog X.w H s.heap a (.frz ob (.lst xs)) from I.hok a _ ea);exact PySem.W.kia_one PySem.W.kitx_list I.kIn ⟨_,h1,rfl⟩ e (fun z=>nomatch z) h
 | @tup a xs ea =>
  cases (show u=Value.ref a from rx);obtain⟨_,_,_,p⟩:=(show bj X.prog X.w H s.heap a (.tup xs) from I.hok a _ ea);obtain⟨o,h1,h2,_⟩:=p;exact PySem.W.kia_one PySem.W.kitx_tuple I.kIn ⟨o,h1,h2⟩ e (fun z=>nomatch z) h
 | @dK a kvs ea =>
  cases (show u=Value.ref a from rx);obtain⟨_,_,vs,_,p⟩:=(show bj X.prog X.w H s.heap a (.dK kvs) from I.hok a _ ea);obtain⟨o,es,ep,h1,h2,_⟩:=p;exact PySem.W.kia_one PySem.W.kitx_dict I.kIn ⟨o,h1,h2.1⟩ e (fun z=>nomatch z) h
 | @dT a kvs ea =>
  cases (show u=Value.ref a from rx);obtain⟨_,_,xs,_,o,es,ep,h1,h2,_⟩:=(show bj X.prog X.w H s.heap a (.dT kvs) from I.hok a _ ea);exact PySem.W.kia_one PySem.W.kitx_dict I.kIn ⟨o,h1,h2.1⟩ e (fun z=>nomatch z) h
 | @ins a C dx fs ea cl ha hn htk hm =>
  cases (show u=Value.ref a from rx);obtain⟨mA,O,_⟩:=sV I.hok ea;obtain⟨od,J,_⟩:=O.look;exact PySem.W.kia_one (PySem.W.kitx_own (cl.get _) cl.hd ha hn htk hm) I.kIn J e (fun z=>nomatch z) h
end
structure cU (k:Nat) (A:Around):Prop where
  hd:A.handled=none
  dp:A.depth+3*k+5<recursionLimit
  un:A.units+16*k+200<cLine
  gd:A.guards=some []
theorem cU.mono {j k:Nat} {A:Around} (r:cU k A) (h:j≤k):cU j A:=⟨r.hd,by have:=r.dp;lia,by have:=r.un;lia,r.gd⟩
theorem cU.deeper {k:Nat} {A:Around} (r:cU (k+1) A) (env:Env):cU k (A.deeper env) :=
 ⟨r.hd,by have:=r.dp;show A.depth+1+3*k+5<_;lia,by have:=r.un;show A.units+3+16*k+200<_;lia,r.gd⟩
theorem cU.depth {k:Nat} {A:Around} (r:cU k A):A.depth<recursionLimit:=by have:=r.dp;lia
theorem cU.units {k:Nat} {A:Around} (r:cU k A):A.units+64<cLine:=by have:=r.un;lia
def iC:TA:=fun _ H Q=>Q [] H
def cP (ta:TE) (tr:TA):TA:=fun σ H Q=>ta σ H fun x H1=>tr σ H1 fun xs H2=>Q (x::xs) H2
section
variable {X:Cx} {e:Expr} {es:List Expr} {te:TE} {t:TA} {pos:Pos}
theorem pC:PA X [] iC:=fun _ _ _ _ H Q I h=>Calls.spliced_nil ⟨[],H,I,.nil,h⟩
theorem pA (ha:PE X e te) (hr:PA X es t) (hs:starEach (e::es) X.env=(false,eval e X.env)::starEach es X.env:=by rfl):PA X (e::es) (cP te t):=by
 intro pos pins s σ H Q I h;rw[hs];show wpAny _ _ (spliced ((false,eval e X.env)::backTo pos (starEach es X.env))) _ _ s;refine Calls.spliced_cons (thn (ha pins s σ H _ I h) fun u s1 zy65=>?_);obtain⟨x,H1,I1,r1,q1⟩:=zy65;refine thn (hr pos pins s1 σ H1 _ I1 q1) fun us s2 zy66=>?_;obtain⟨xs,H2,I2,r2,q2⟩:=zy66;exact⟨x::xs,H2,I2,.cons r1 r2,q2⟩
def uZ (t:TA):TE:=fun σ H Q=>t σ H fun xs H1=>xs.length≤sizeLine∧∀ p,H1 p=none→Q (.ref p) (upd H1 p (.tup xs))
def v7 (t:TA):TE:=fun σ H Q=>t σ H fun xs H1=>xs.length≤sizeLine∧∀ p,H1 p=none→Q (.ref p) (upd H1 p (.lst xs))
theorem au {x1} (h:PA X es t):PE X (.Tuple es x1 pos) (uZ t):=by
 intro pins s σ H Q I hq;refine wpAny_Tuple_spliced (thn (h pos pins s σ H _ I hq) fun us s1 ⟨xs,H1,I1,r,z,q⟩=>⟨by rw[← r.length];exact z,?_⟩);have hf:H1 s1.heap.objs.size=none:=I1.hok.fresh (Nat.le_refl _);refine⟨.ref s1.heap.objs.size,upd H1 s1.heap.objs.size (.tup xs),I1.laid (t':=s1.toks) (fun b u e=>hpS _ e) (Nat.le_refl _) ?_,rfl,q _ hf⟩;exact⟨z,us,r,⟨_,Heap.get?_push_size _ rfl,rfl,_,rfl⟩⟩
theorem ag (h:PA X es t):PE X (.List es pos) (v7 t):=by
 intro pins s σ H Q I hq;refine wpAny_List_spliced (thn (h pos pins s σ H _ I hq) fun us s1 ⟨xs,H1,I1,r,z,q⟩=>⟨by rw[← r.length];exact z,?_⟩);have hf:H1 s1.heap.objs.size=none:=I1.hok.fresh (Nat.le_refl _);refine⟨.ref s1.heap.objs.size,upd H1 s1.heap.objs.size (.lst xs),I1.laid (t':=s1.toks) (fun b u e=>hpS _ e) (Nat.le_refl _) ?_,rfl,q _ hf⟩;exact⟨z,us,0,r,Heap.get?_push_size _ rfl⟩
end
abbrev Sp:=List V→Hp→VK→XK→Prop
abbrev CXT:=List Env→Hp→Shared→XK→Value→Shared→Prop
structure tP (P:Program) (w:World) (K:Fg) (mg:SOV) (base:Heap) (A:Around) (outer:List Env) (s:Shared) (H:Hp):Prop where
  frames:A.frames=some outer
  mod:Mod K mg base
  bs:∀ b o,base.get? b=some o→s.heap.get? b=some o∧H b=none
  bsz:base.objs.size≤s.heap.objs.size
  funs:s.heap.FunFrames base outer
  frf:∀ b∈frs outer,H b=none
  hok:HOk P w H s.heap
  bare:AllBare s.gens
def CE (outer:List Env) (P:Program) (w:World) (H:Hp) (s:Shared) (Q:VK) (u:Value) (s':Shared):Prop :=
  ∃ v H',s'.os=s.os∧AllBare s'.gens∧Un (frs outer) [] H H' s.heap s'.heap∧HOk P w H' s'.heap∧aT v u∧Q v H'
def CR (CX:CXT) (outer:List Env) (P:Program) (w:World) (H:Hp) (s:Shared) (Q:VK) (E:XK) (r:Result) (s':Shared):Prop :=
  match r with
  | .ok (.ret u)=>CE outer P w H s Q u s'
  | .ok _=>False
  | .error e=>CX outer H s E e s'
structure iM (P:Program) (w:World) (K:Fg) (mg:SOV) (base:Heap) (CX:CXT) (k:Nat) (f:Addr) (fd:FuncData) (ps:List Str) (sp:Sp):Prop where
  len:∀ vs H Q E,sp vs H Q E→vs.length=ps.length
  run:∀ (A:Around) (outer:List Env) (s:Shared) (H:Hp) (args:Args) (us:List Value) (vs:List V) (Q:VK) (E:XK),cU k A→tP P w K mg base A outer s H→BindsTo s fd args (ps.zip us)→aQ vs us→sp vs H Q E →
    codeAny (model P w) A (.call (.ref f) args) (CR CX outer P w H s Q E) s
section
variable {X:Cx} {pins:AOs} {σ:St} {H:Hp} {s s':Shared}
theorem Inv.env0 (I:Inv X pins σ H s):tP X.prog X.w X.K X.mg X.base X.A X.stack s H :=
 ⟨I.ok.frames,I.ok.mod,I.bs,Nat.le_trans I.ok.bsz I.sz,I.stack,I.stkFree,I.hok,I.bare⟩
theorem Inv.after {Q:VK} {u:Value} (I:Inv X pins σ H s) (h:CE X.stack X.prog X.w H s Q u s'):EP X pins σ Q u s':=by
 obtain⟨v,H',os,bare,un,hok,r,q⟩:=h;obtain⟨hh,g,d,t,os'⟩:=s';obtain rfl:os'=s.os:=os;exact⟨v,H',I.call (h':=hh) (g':=g) (d':=d) (t':=t) (ch:=[]) un hok bare (fun b z=>absurd z (by simp)),r,q⟩
end
def gP (sp:Sp) (dvs:List V) (E:XK) (t:TA):TE:=fun σ H Q=>t σ H fun vs H1=>sp (vs++dvs) H1 Q E
def jg (K:Fg) (fd:FuncData) (ps:List Str) (ds:List Value):Prop :=
  ∀ (s:Shared) (us:List Value),K.In s.heap→(us++ds).length=ps.length→BindsTo s fd ⟨us,[]⟩ (ps.zip (us++ds))
theorem jg.all {K:Fg} {fd:FuncData} {ps:List Str} (h:∀ us:List Value,us.length=ps.length→bindArgs fd ⟨us,[]⟩=pure (ps.zip us)):jg K fd ps []:=fun s us _ hl=>by
 rw[List.append_nil] at hl ⊢;exact .of_eq (h us hl)
def lY (CX:CXT) (X:Cx) (E:XK):Prop:=∀ (pins:AOs) (σ:St) (H:Hp) (s:Shared) (e:Value) (s':Shared),Inv X pins σ H s→CX X.stack H s E e s'→X.xe e s'
section
variable {X:Cx} {CX:CXT} {k:Nat} {f C:Addr} {fd:FuncData} {ps:List Str} {sp:Sp} {dvs:List V} {ds:List Value} {E:XK} {x m:Str} {p pos apos:Pos} {e o:Expr} {es:List Expr} {ta:TE} {t:TA}
theorem vB {pins:AOs} {σ:St} {H:Hp} {s:Shared} {Q:VK} {us:List Value} {vs:List V} (F:iM X.prog X.w X.K X.mg X.base CX k f fd ps sp) (hr:cU k X.A) (hb:jg X.K fd ps ds) (hd:aQ dvs ds) (hx:lY CX X E)
 (I:Inv X pins σ H s) (r:aQ vs us) (h:sp (vs++dvs) H Q E):wpAny (model X.prog X.w) X.A (call (.ref f) us) (EP X pins σ Q) X.xe s:=by
 have r2:aQ (vs++dvs) (us++ds):=r.append hd;have hl:(us++ds).length=ps.length:=by rw[← r2.length];exact F.len _ _ _ _ h
 refine wpAny_call (codeAny_mono (F.run X.A X.stack s H ⟨us,[]⟩ (us++ds) (vs++dvs) Q E hr I.env0 (hb s us I.kIn hl) r2 h) fun r s' hq=>?_);cases r with
 | error e=>exact hx pins σ H s e s' I hq
 | ok fl =>
  cases fl with
  | ret u=>exact I.after hq
  | next=>exact False.elim hq
  | brk=>exact False.elim hq
  | cont=>exact False.elim hq
theorem sB (F:iM X.prog X.w X.K X.mg X.base CX k f fd ps sp) (hr:cU k X.A) (hg:Gl X x) (hm:X.mg x=some (.ref f)) (hk:PySem.W.keepIn X.K (.ref f)=true) (hb:jg X.K fd ps ds) (hd:aQ dvs ds) (hx:lY CX X E)
 (ha:PA X (e::es) t) (hdb:(x==("__debug__":Str))=false:=by decide) (he:starEach (e::es) X.env=(false,eval e X.env)::starEach es X.env:=by rfl) (hpl:(backTo pos (starEach es X.env)).any (·.1)=false:=by rfl) :
 PE X (.Call (.Name x p) (e::es) [] pos) (gP sp dvs E t):=by
 intro pins s σ H Q I h;refine wpAny_Call_Name_kw (mG I hg hm ?_ hdb);refine PySem.W.callWith_K (h₀:=X.base) I.ok.mod.kin hk (thn (ha pos pins s σ H _ I h) fun us s1 zy67=>?_) he hpl;obtain⟨vs,H1,I1,r,q⟩:=zy67;refine⟨I1.kIn,?_⟩;exact vB F hr hb hd hx I1 r q
end
section
variable {X:Cx} {CX:CXT} {k:Nat} {f C:Addr} {fd:FuncData} {ps ks:List Str} {sp:Sp} {E:XK} {x m:Str} {p pos apos kpos:Pos} {e o:Expr} {es:List Expr} {kws:List Keyword} {te ta:TE} {t tk:TA} {nm:Option Str}
variable {g:List Value→List Value→List Value} {gV:List V→List V→List V}
end
structure aB (N P:List Str) (sc:Scope):Prop where
  kind:sc.kind=.function
  co:sc.isCoroutine=false
  gen:sc.isGenerator=false
  nd:N.Nodup
  pre:N.take P.length=P
  par:∀ x∈P,sc.names.lookup x=some .local∨sc.names.lookup x=some .cell
  nofree:∀ y∈sc.names,y.2≠.free
theorem fsM {N P:List Str} {sc:Scope} (a:sc.kind=.function:=by rfl) (b:sc.isCoroutine=false:=by rfl) (c:sc.isGenerator=false:=by rfl) (d:N.Nodup:=by decide +kernel) (e:N.take P.length=P:=by rfl) (f:∀ x∈P,sc.names.lookup x=some .local∨sc.names.lookup x=some .cell:=by decide +kernel) (g:∀ y∈sc.names,y.2≠.free:=by decide +kernel):aB N P sc:=⟨a,b,c,d,e,f,g⟩
theorem j9 {kindOf:Str→Option NameKind} {x:Str}:∀ {binds:List (Str×Value)} {m:SOV},(∀ v,(x,v)∉binds)→bindL kindOf binds m x=m x
 | [],_,_=>rfl
 | (n,v)::r,m,h=>by
  unfold bindL;rw[j9 fun w hw=>h w (mCM _ hw)];split
  · have:x≠n:=by rintro rfl;exact h v mCS
    simp[this]
  · rfl
theorem jb {kindOf:Str→Option NameKind} {x:Str}:∀ {binds:List (Str×Value)} {m:SOV},(∀ v,(x,v)∉binds)→bindC kindOf binds m x=m x
 | [],_,_=>rfl
 | (n,v)::r,m,h=>by
  unfold bindC;rw[jb fun w hw=>h w (mCM _ hw)];split
  · rfl
  · have:x≠n:=by rintro rfl;exact h v mCS
    simp[this]
theorem ja {kindOf:Str→Option NameKind} {x:Str} {v:Value}:∀ {P:List Str} {vs:List Value} {i:Nat} {m:SOV},P.Nodup→P[i]?=some x→vs[i]?=some v→kindOf x=some .local →
 bindL kindOf (P.zip vs) m x=some v
 | [],_,_,_,_,h,_,_=>by simp at h
 | _::_,[],_,_,_,_,h,_=>by simp at h
 | p::P,w::vs,0,m,nd,h1,h2,hk=>by
  simp at h1 h2;subst h1;subst h2;show bindL kindOf ((p,w)::P.zip vs) m p=_;unfold bindL;rw[j9 fun v hv=>(List.nodup_cons.mp nd).1 (List.of_mem_zip hv).1,if_pos hk];simp
 | p::P,w::vs,i+1,m,nd,h1,h2,hk=>by
  show bindL kindOf ((p,w)::P.zip vs) m x=_;unfold bindL;exact ja (i:=i) (List.nodup_cons.mp nd).2 (by simpa using h1) (by simpa using h2) hk
theorem jc {kindOf:Str→Option NameKind} {x:Str} {v:Value}:∀ {P:List Str} {vs:List Value} {i:Nat} {m:SOV},P.Nodup→P[i]?=some x→vs[i]?=some v→kindOf x≠some .local →
 bindC kindOf (P.zip vs) m x=some v
 | [],_,_,_,_,h,_,_=>by simp at h
 | _::_,[],_,_,_,_,h,_=>by simp at h
 | p::P,w::vs,0,m,nd,h1,h2,hk=>by
  simp at h1 h2;subst h1;subst h2;show bindC kindOf ((p,w)::P.zip vs) m p=_;unfold bindC;rw[jb fun v hv=>(List.nodup_cons.mp nd).1 (List.of_mem_zip hv).1,if_neg hk];simp
 | p::P,w::vs,i+1,m,nd,h1,h2,hk=>by
  show bindC kindOf ((p,w)::P.zip vs) m x=_;unfold bindC;exact jc (i:=i) (List.nodup_cons.mp nd).2 (by simpa using h1) (by simpa using h2) hk
def eQ (N:List Str) (vs:List V):St:=vs.map some++List.replicate (N.length-vs.length) none
def cJ (CX:CXT) (P:Program) (w:World) (K:Fg) (mg:SOV) (base:Heap) (N:List Str) (qual:Str) (scope:Scope) (f:Addr) (cd:Value) (A:Around) (outer:List Env) (s:Shared) (H:Hp) (E:XK):Cx where
  prog:=P
  w:=w
  K:=K
  mg:=mg
  base:=base
  A:=A.deeper (envOfC qual scope s.heap.objs.size f cd)
  N:=N
  s₀:=s
  H₀:=H
  env:=envOfC qual scope s.heap.objs.size f cd
  outer:=outer
  stack:=envOfC qual scope s.heap.objs.size f cd::outer
  ex:=[]
  calm:=true
  fn:=fun _=>true
  pn:=[]
  xe:=fun e s'=>wpAny (model P w) (A.deeper (envOfC qual scope s.heap.objs.size f cd)) (leaving (envOfC qual scope s.heap.objs.size f cd) e) (fun _ s''=>CX outer H s E e s'') (fun e' s''=>CX outer H s E e' s'') s'
theorem kW {sc:Scope} {n:Nat} {x:Str} (h:sc.names.lookup x=some .cell):∃ c,(cellsFrom n sc.names []).lookup x=some c:=by
 have q:=PySem.W.cellsFrom_some sc.names n [] (.inl h);exact Option.isSome_iff_exists.mp q
theorem o0 {CX:CXT} {P:Program} {w:World} {K:Fg} {mg:SOV} {base:Heap} {N ps:List Str} {qual:Str} {scope:Scope} {f:Addr} {cd:Value} {A:Around} {outer:List Env} {s s1:Shared} {H:Hp} {E:XK} {us:List Value} {vs:List V}
 (S:aB N ps scope) (hd:A.handled=none) (e0:tP P w K mg base A outer s H) (hl:vs.length=ps.length) (r:aQ vs us)
 (x:InCallC s s.heap.objs.size (bindL (envOfC qual scope s.heap.objs.size f cd).kindOf (ps.zip us) fun _=>none) (cellsFrom (s.heap.objs.size+1) scope.names []) (bindC (envOfC qual scope s.heap.objs.size f cd).kindOf (ps.zip us) fun _=>none) s1) :
 Inv (cJ CX P w K mg base N qual scope f cd A outer s H E) [] (eQ N vs) H s1:=by
 have hpl:ps.length≤N.length:=by have:=congrArg List.length S.pre;rw[lTk] at this;lia
 obtain⟨h1,tk,rfl,hk⟩:=x.done;have noA:∀ b:Addr,b∉(cJ CX P w K mg base N qual scope f cd A outer s H E).ex:=fun b z=>absurd (show b∈([]:List Addr) from z) (by simp);refine⟨⟨e0.mod,S.kind,rfl,rfl,Nat.le_refl _,fun y z c h1 h2=>?_,fun y hy=>?_,fun y c _ h=>?_,fun _=>hd,Around.frames_deeper e0.frames,.inr ⟨rfl,rfl⟩,fun b z=>absurd z (noA b),e0.bs,e0.bsz,fun b _ _=>noA b,fun b z=>absurd z (noA b),e0.funs,e0.frf⟩,
   rfl,e0.bare,Un.kept hk,⟨_,x.toInCall.ns,fun i y v h1 h2 h3=>?_⟩,fun y c h=>⟨_,x.cell y c h⟩,e0.hok.fresh (Nat.le_refl _),fun y c h=>?_,fun p hp=>absurd (show p∈([]:AOs) from hp) (by simp),e0.hok.kept hk,?_⟩
 · exact name_of_addr x.apart (PySem.mem_of_lookup h1) (PySem.mem_of_lookup h2)
 · have hy:scope.names.lookup y=some .cell∨scope.names.lookup y=some .free:=hy
   rcases hy with hy | hy
   · exact kW hy
   · exact absurd rfl (S.nofree _ (PySem.mem_of_lookup hy))
 · exact Nat.le_of_lt (x.above y c (PySem.mem_of_lookup h))
 · have hi:i<vs.length:=by
    unfold eQ at h2;by_cases hi:i<vs.length
    · exact hi
    · rw[List.getElem?_append_right (by simpa using hi)] at h2;rw[List.getElem?_replicate] at h2;split at h2 <;> cases h2
   have ha:vs[i]?=some v:=by
    unfold eQ at h2;rw[List.getElem?_append_left (by simpa using hi),gEM] at h2;cases e:vs[i]? with
    | none=>rw[e] at h2;cases h2
    | some a=>rw[e] at h2;cases h2;rfl
   obtain⟨u,hu,rv⟩:=r.get ha;have hp:ps[i]?=some y:=by
    rw[← S.pre,List.getElem?_take_of_lt (by lia)];exact h1
   have ndP:ps.Nodup:=by rw[← S.pre];exact S.nd.sublist (List.take_sublist _ _)
   refine⟨u,rv,?_⟩
   rcases S.par y (mGE hp) with k | k
   · exact .inl ⟨k,ja ndP hp hu k⟩
   · obtain⟨c,e⟩:=kW (n:=s.heap.objs.size+1) k;refine .inr ⟨.inl k,c,e,?_⟩;have q:=x.cell y c e;rw[jc ndP hp hu (by show scope.names.lookup y≠_;rw[k];decide)] at q;exact q
 · exact e0.hok.fresh (Nat.le_of_lt (x.above y c (PySem.mem_of_lookup h)))
 · unfold eQ;show _=N.length;rw[lAp,lMp,List.length_replicate];lia
theorem AB {CX:CXT} {P:Program} {w:World} {K:Fg} {mg:SOV} {base:Heap} {k:Nat} {f:Addr} {name qual:Str} {params:Arguments} {body:List Stmt} {scope:Scope} {dV kV doc pm cdv ct oc:Value} {an od:Option Addr}
 {osl:Array (Option Value)} {N ps:List Str} {sp:Sp} (lk:K.lookup f=some ⟨oc,od,.func (PySem.W.fnOf name qual params body scope dV kV doc pm an cdv ct),osl⟩) (hcd:PySem.W.codeIn K cdv qual=true) (S:aB N ps scope)
 (len:∀ vs H Q E,sp vs H Q E→vs.length=ps.length)
 (hbody:∀ (A:Around) (outer:List Env) (s:Shared) (H:Hp) (vs:List V) (Q:VK) (E:XK),cU k (A.deeper (envOfC qual scope s.heap.objs.size f cdv))→sp vs H Q E →
   ∃ t,PSs (cJ CX P w K mg base N qual scope f cdv A outer s H E) body t∧t {nx:=fun _ H'=>Q .non H',rt:=Q} (eQ N vs) H) :
 iM P w K mg base CX (k+1) f (PySem.W.fnOf name qual params body scope dV kV doc pm an cdv ct) ps sp:=by
 refine⟨len,fun A outer s H args us vs Q E hr e0 hb r hsp=>?_⟩;have hl:=len _ _ _ _ hsp;have KX:K.In s.heap:=e0.mod.kin.keeps fun b o e=>(e0.bs b o e).1;have lim:s.heap.NoLimit:=e0.mod.nolimit.keeps fun b o e=>(e0.bs b o e).1;have hkind:∀ y∈ps.zip us,scope.names.lookup y.1=some .local∨(scope.names.lookup y.1=some .cell∧((cellsFrom (s.heap.objs.size+1) scope.names []).lookup y.1).isSome=true):=fun ⟨n,v⟩ hy=>by
  rcases S.par n (List.of_mem_zip hy).1 with q | q
  · exact .inl q
  · exact .inr ⟨q,PySem.W.cellsFrom_some _ _ _ (.inl q)⟩
 refine codeAny_call_function hr.depth (KX _ _ lk) rfl S.co S.gen rfl (PySem.W.codeRec_of KX hcd) (hb _ _ _ _ ?_);refine wpAny_newFunctionEnv_cells S.kind hkind fun env he s1 x=>?_;subst he;refine⟨lim.keeps x.toInCall.keep,codeAny_func ?_⟩;obtain⟨t,ht,hq⟩:=hbody A outer s H vs Q E (hr.deeper _) hsp;have I:Inv (cJ CX P w K mg base N qual scope f cdv A outer s H E) [] (eQ N vs) H s1:=o0 S hr.hd e0 hl r x;refine wpAny_mono (ht [] s1 (eQ N vs) H _ I hq) (fun fl s' hs=>?_) fun e s' hs=>hs;have fin:∀ {σ':St} {H':Hp} {v:V} {u:Value},Inv (cJ CX P w K mg base N qual scope f cdv A outer s H E) [] σ' H' s'→aT v u→Q v H'→CE outer P w H s Q u s' :=
  fun {σ' H' v u} J rv q=>⟨v,H',J.os,J.bare,J.base,J.hok,rv,q⟩
 cases fl with
 | ret u =>
  obtain⟨v,σ',H',J,rv,q⟩:=hs;exact fin J rv q
 | next =>
  obtain⟨σ',H',J,q⟩:=hs;exact fin (v:=V.non) (u:=Value.none) J rfl q
 | brk =>
  obtain⟨_,_,_,q⟩:=hs;exact False.elim q
 | cont =>
  obtain⟨_,_,_,q⟩:=hs;exact False.elim q
section
variable {X:Cx} {x:Str} {p pos:Pos} {e:Expr} {es:List Expr} {t:TA} {id T:String} {r:List V→Hp→VK→Prop}
def tCB (r:List V→Hp→VK→Prop) (t:TA):TE:=fun σ H Q=>t σ H fun vs H1=>r vs H1 Q
theorem ic (hc:fX X (.builtin id) r) (hg:Gl X x) (hm:X.mg x=none) (hv:bootBuiltins x=some (.builtin id)) (ha:PA X (e::es) t) (hn:x≠"__name__":=by decide) (hdb:(x==("__debug__":Str))=false:=by decide)
 (he:starEach (e::es) X.env=(false,eval e X.env)::starEach es X.env:=by rfl) (hpl:(backTo pos (starEach es X.env)).any (·.1)=false:=by rfl):PE X (.Call (.Name x p) (e::es) [] pos) (tCB r t):=by
 intro pins s σ H Q I h;refine wpAny_Call_Name_kw (cW I hg hm hv ?_ hn hdb);refine PyProof.Rows.callWith_builtin1 (thn (ha pos pins s σ H _ I h) fun us s1 zy76=>?_) he hpl;obtain⟨vs,H1,I1,r1,q1⟩:=zy76;exact hc pins s1 σ H1 vs us Q I1 r1 q1
theorem ej (hc:fX X (.type T) r) (hg:Gl X x) (hm:X.mg x=none) (hv:bootBuiltins x=some (.type T)) (ha:PA X (e::es) t) (hn:x≠"__name__":=by decide) (hdb:(x==("__debug__":Str))=false:=by decide)
 (he:starEach (e::es) X.env=(false,eval e X.env)::starEach es X.env:=by rfl) (hpl:(backTo pos (starEach es X.env)).any (·.1)=false:=by rfl):PE X (.Call (.Name x p) (e::es) [] pos) (tCB r t):=by
 intro pins s σ H Q I h;refine wpAny_Call_Name_kw (cW I hg hm hv ?_ hn hdb);refine PyProof.Rows.callWith_type1 (thn (ha pos pins s σ H _ I h) fun us s1 zy77=>?_) he hpl;obtain⟨vs,H1,I1,r1,q1⟩:=zy77;exact hc pins s1 σ H1 vs us Q I1 r1 q1
end
end L2
namespace HT
open PySem PyProof.Rows
section
open PySem.SeqAt
open PySem.AutoSeq1 (wpAny_loadPart')
open PySem.MeetsSeq PySem.MeetsSeq2 PySem.MeetsSeq3
end
section
variable {prog:Program} {w:World} {A:Around} {E:VSP} {s:Shared}
theorem tw {t b:Addr} {vs ws:List Value} {Q:VSP} (ht:IsTup s.heap t vs.toArray) (hb:IsTup s.heap b ws.toArray) (hv:vs≠[])
 (h1:ws=[]→Q (.ref t) s) (h2:ws≠[]→Q (.ref s.heap.objs.size) {s with heap:=s.heap.push {cls:=.type "tuple",data:=.seq (vs++ws).toArray}})
 (hsz:vs.length+ws.length≤sizeLine):wpAny (model prog w) A (binaryOp .Add (.ref t) (.ref b)) Q E s:=by
 obtain⟨⟨cls,dd,data,sl⟩,ho,hc,n,hd⟩:=id ht;obtain⟨⟨cls2,dd2,data2,sl2⟩,ho2,hc2,n2,hd2⟩:=id hb;simp only at hc hd hc2 hd2;subst hc hd hc2 hd2;have e:vs.toArray++ws.toArray=(vs++ws).toArray:=by simp
 by_cases hw:ws=[]
 · exact concat_meets ⟨_,ho,rfl⟩ ⟨_,ho2,rfl⟩ noFill_tuple_add seq_tuple_add PySem.F.slot_tuple_add PySem.F.entry_tuple_add (PySem.F.args_tuple_add_2 _ _)
    (tuple_addW1 t b vs.toArray ws.toArray n n2 dd dd2 sl sl2 (by simpa using hv) (by simp[hw])) ⟨ho,ho2,h1 hw⟩
 · refine concat_meets ⟨_,ho,rfl⟩ ⟨_,ho2,rfl⟩ noFill_tuple_add seq_tuple_add PySem.F.slot_tuple_add PySem.F.entry_tuple_add (PySem.F.args_tuple_add_2 _ _)
    (tuple_addW2 t b vs.toArray ws.toArray n n2 dd dd2 sl sl2 (by simpa using hv) (by simpa using hw) (by rw[List.size_toArray,List.size_toArray];exact hsz)) ⟨ho,ho2,?_⟩
   rw[e];exact h2 hw
def sIx (n d:Nat):Option Int→Nat
  | none=>d
  | some v=>if v<0 then (v+(n:Int)).toNat else min v.toNat n
theorem pq (n d:Nat):sIx n d none=d:=rfl
theorem jm (n d k:Nat):sIx n d (some (k:Int))=min k n:=by
 show (if (k:Int)<0 then ((k:Int)+(n:Int)).toNat else min (k:Int).toNat n)=min k n;rw[if_neg (by lia),Int.toNat_natCast]
theorem vA (n d:Nat) (hd:d≤n) (o:Option Int):sIx n d o≤n:=by
 cases o with
 | none=>exact hd
 | some v =>
  show (if v<0 then (v+(n:Int)).toNat else min v.toNat n)≤n;by_cases hv:v<0
  · rw[if_pos hv];lia
  · rw[if_neg hv];exact Nat.min_le_right _ _
theorem kR (v:Int) (n:Nat) (h:¬ v<0):min v (n:Int)=((min v.toNat n:Nat):Int):=by
 obtain⟨k,rfl⟩:=Int.eq_ofNat_of_zero_le (Int.not_lt.mp h);show min (k:Int) (n:Int)=((min k n:Nat):Int)
 rcases Nat.le_total k n with z | z
 · rw[Nat.min_eq_left z,Int.min_eq_left (Int.ofNat_le.mpr z)]
 · rw[Nat.min_eq_right z,Int.min_eq_right (Int.ofNat_le.mpr z)]
theorem mP (v:Int) (n d:Nat):(if v<0 then max (v+(n:Int)) 0 else min v (n:Int))=((sIx n d (some v):Nat):Int):=by
 show (if v<0 then max (v+(n:Int)) 0 else min v (n:Int))=(((if v<0 then (v+(n:Int)).toNat else min v.toNat n):Nat):Int);by_cases hv:v<0
 · simp only[if_pos hv];exact (Int.ofNat_toNat _).symm
 · simp only[if_neg hv];exact kR v n hv
theorem lW (lo hi:Option Int) (n:Nat):Builtin.Slice.sliceAdjust lo hi 1 (n:Int)=(((sIx n 0 lo:Nat):Int),((sIx n n hi:Nat):Int)):=by
 have h1:¬ ((1:Int)<0):=by lia
 unfold Builtin.Slice.sliceAdjust;simp only[h1,if_false];refine Prod.ext ?_ ?_
 · cases lo with
   | none=>rfl
   | some v=>exact mP v n 0
 · cases hi with
   | none=>rfl
   | some v=>exact mP v n n
theorem lr (i j:Nat):Builtin.Slice.slicePlaces (i:Int) (j:Int) 1=j-i:=by
 unfold Builtin.Slice.slicePlaces;have h1:(1:Int)>0:=by lia
 simp only[h1,if_true,Int.ediv_one];split <;> lia
theorem gT {v:Value} {o:Option Int} {Q:Option Int→Shared→Prop} (p:IsPart v o) (h:Q o s):wpAny (model prog w) A (Builtin.Slice.slicePartIndex v) Q E s:=by
 cases p with
 | none=>exact slicePart_none h
 | int i t=>exact slicePart_int h
theorem dq {sl:Addr} {vl vu:Value} {lo hi:Option Int} {n:Nat} {Q:Int×Int×Nat→Shared→Prop} (hs:s.heap.IsSliceOf sl vl vu .none) (pl:IsPart vl lo) (pu:IsPart vu hi)
 (h:Q (((sIx n 0 lo:Nat):Int),1,sIx n n hi-sIx n 0 lo) s):wpAny (model prog w) A (Builtin.Slice.sliceApplied (.ref sl) (pure (n:Int))) Q E s:=by
 obtain⟨os,hos,hcs,hds⟩:=id hs;unfold Builtin.Slice.sliceApplied Builtin.Slice.sliceFields;refine wB (wB (wpAny_field hos hds (x:=vl) rfl (wB (wpAny_field hos hds (x:=vu) rfl (wB (wpAny_field hos hds (x:=.none) rfl (wP ?_)))))));refine wB (slicePart_none ?_);show wpAny _ _ (if ((1:Int)==0)=true then _ else _) _ _ s;rw[if_neg (by decide)];refine wB (gT pl (wB (gT pu (wB (wP ?_)))));show wpAny _ _ (match Builtin.Slice.sliceAdjust lo hi 1 (n:Int) with | (lo,hi)=>pure (lo,(1:Int),Builtin.Slice.slicePlaces lo hi 1)) _ _ s;rw[lW lo hi n];show wpAny _ _ (pure (((sIx n 0 lo:Nat):Int),(1:Int),Builtin.Slice.slicePlaces ((sIx n 0 lo:Nat):Int) ((sIx n n hi:Nat):Int) 1)) _ _ s;rw[lr];exact wP h
theorem qd (xs:Array Value) (i k:Nat):((List.range k).filterMap fun (m:Nat)=>xs[((i:Int)+(m:Int)*1).toNat]?).toArray=((xs.toList.drop i).take k).toArray:=by
 have e:(fun (m:Nat)=>xs[((i:Int)+(m:Int)*1).toNat]?)=fun m=>xs[i+m]?:=by
  funext m
  have:((i:Int)+(m:Int)*1).toNat=i+m:=by lia
  rw[this]
 rw[e];have:=pick_run xs i k;rw[List.filterMap_map] at this;have e2:((fun x=>xs[x]?)∘fun x=>i+x)=fun m=>xs[i+m]?:=rfl;rw[e2] at this;rw[this]
theorem fR {t sl:Addr} {aA:Array Value} {vl vu:Value} {lo hi:Option Int} {Q:VSP} (ht:IsTup s.heap t aA) (hs:s.heap.IsSliceOf sl vl vu .none) (pl:IsPart vl lo) (pu:IsPart vu hi)
 (hw:¬ (sIx aA.size 0 lo=0∧sIx aA.size aA.size hi=aA.size))
 (h:Q (.ref s.heap.objs.size) {s with heap:=s.heap.push {cls:=.type "tuple",data:=.seq ((aA.toList.drop (sIx aA.size 0 lo)).take (sIx aA.size aA.size hi-sIx aA.size 0 lo)).toArray}})
 (hsz:aA.size≤sizeLine):wpAny (model prog w) A (getItem (.ref t) (.ref sl)) Q E s:=by
 have htake:sizeOk (.seq ((aA.toList.drop (sIx aA.size 0 lo)).take (sIx aA.size aA.size hi-sIx aA.size 0 lo)).toArray):=by
  show ((aA.toList.drop (sIx aA.size 0 lo)).take (sIx aA.size aA.size hi-sIx aA.size 0 lo)).toArray.size≤sizeLine;rw[List.size_toArray,lTk,List.length_drop,Array.length_toList];exact Nat.le_trans (Nat.min_le_right _ _) (Nat.le_trans (Nat.sub_le _ _) hsz)
 have hj:sIx aA.size aA.size hi≤aA.size:=vA _ _ (Nat.le_refl _) hi;obtain⟨os,hos,hcs,hds⟩:=id hs;have hTs:s.TypeIs (.ref sl) "slice":=⟨os,hos,hcs⟩;unfold getItem
 try with_reducible refine wpAny_holding ?_
 first | refine wB (wP ?_) | skip
 refine wB (wpAny_sequenceKey ht.typeIs (by decide) ?_);refine wB (wpAny_callSpecial?_slot (name:=Str.ofString "__getitem__") ht.typeIs PyProof.Rows.slot_tuple_getitem
   (wpAny_call_entry PyProof.Rows.slot_tuple_getitem ht.typeIs entry_tuple_getitem ?_ (args_tuple_getitem _ _)))
 show wpAny _ _ (Builtin.Tuple.tupleItemsOf (.ref t)>>=_) _ _ s;refine wB (tupleItemsOf_ ht ?_);refine wB (wpAny_typeOf hTs ?_);rw[if_pos (by decide)];refine wB (dq hs pl pu ?_);have hno:¬ ((((sIx aA.size 0 lo:Nat):Int)==0&&(1:Int)==1&&(sIx aA.size aA.size hi-sIx aA.size 0 lo)==aA.size)=true):=by
  intro q;rw[Bool.and_eq_true,Bool.and_eq_true] at q;have q1:((sIx aA.size 0 lo:Nat):Int)=0:=eq_of_beq q.1.1;have q2:sIx aA.size aA.size hi-sIx aA.size 0 lo=aA.size:=eq_of_beq q.2;exact hw ⟨by lia,by lia⟩
 show wpAny _ _ (if (((sIx aA.size 0 lo:Nat):Int)==0&&(1:Int)==1&&(sIx aA.size aA.size hi-sIx aA.size 0 lo)==aA.size)=true then _ else _) _ _ s;rw[if_neg hno,qd]
 first
  | exact wB (m:=Builtin.Tuple.tupleExact _) (wpAny_newObj_type (wP ⟨_,rfl,wP h⟩) htake)
  | exact wB (m:=Builtin.Tuple.tupleExact _) (wpAny_newObj_type (wB (wP (wP ⟨_,rfl,wP h⟩))) htake)
  | exact wB (wB (m:=Builtin.Tuple.tupleExact _) (wpAny_newObj_type (wP (wP ⟨_,rfl,wP h⟩)) htake))
  | exact wB (wB (m:=Builtin.Tuple.tupleExact _) (wpAny_newObj_type (wP ⟨_,rfl,wP h⟩) htake))
end
end HT
namespace L2
open PySem PySem.Spec PyProof.Rows
abbrev TO:=St→Hp→(Option Int→Hp→Prop)→Prop
def PO (X:Cx) (e:Option Expr) (t:TO):Prop :=
  ∀ (pins:AOs) (s:Shared) (σ:St) (H:Hp) (Q:Option Int→Hp→Prop),Inv X pins σ H s→t σ H Q →
    wpAny (model X.prog X.w) X.A (evalPart e X.env) (fun u s'=>∃ o H',Inv X pins σ H' s'∧IsPart u o∧Q o H') X.xe s
def mm:TO:=fun _ H Q=>Q none H
def tT (t:TE):TO:=fun σ H Q=>t σ H fun x H1=>wW x H1 fun i H2=>Q (some i) H2
section
variable {X:Cx} {e:Expr} {te:TE} {lo hi:Option Expr} {tl th:TO} {pos p2:Pos}
theorem cQ:PO X none mm:=by
 intro pins s σ H Q I h;rw[evalPart_none];exact wP ⟨none,H,I,.none,h⟩
theorem bH (h:PE X e te):PO X (some e) (tT te):=by
 intro pins s σ H Q I hw;rw[evalPart_some];refine thn (h pins s σ H _ I hw) fun u s1 zy78=>?_;obtain⟨x,H1,I1,r1,q1⟩:=zy78;obtain⟨i,rfl,q⟩:=q1;obtain⟨t,rfl⟩:=r1;exact⟨some i,H1,I1,.int i t,q⟩
def SlR (X:Cx) (r:V→Option Int→Option Int→Hp→VK→Prop):Prop :=
  ∀ (pins:AOs) (s:Shared) (σ:St) (H:Hp) (x:V) (v vl vu:Value) (lo hi:Option Int) (sl:Addr) (Q:VK),Inv X pins σ H s→aT x v→s.heap.IsSliceOf sl vl vu .none→IsPart vl lo→IsPart vu hi→r x lo hi H Q →
    ∃ T id,typeLookup (.type T) "__getitem__"=pure (some (.builtin id))∧s.TypeIs v T∧wpAny (model X.prog X.w) X.A (getItem v (.ref sl)) (EP X pins σ Q) X.xe s
theorem SlR.or {r r':V→Option Int→Option Int→Hp→VK→Prop} (h:SlR X r) (h':SlR X r'):SlR X (fun x lo hi H Q=>r x lo hi H Q∨r' x lo hi H Q):=by
 intro pins s σ H x v vl vu lo hi sl Q I rx hs pl pu q
 rcases q with q | q
 · exact h pins s σ H x v vl vu lo hi sl Q I rx hs pl pu q
 · exact h' pins s σ H x v vl vu lo hi sl Q I rx hs pl pu q
def tSl (r:V→Option Int→Option Int→Hp→VK→Prop) (te:TE) (tl th:TO):TE:=fun σ H Q=>te σ H fun x H1=>tl σ H1 fun l H2=>th σ H2 fun u H3=>r x l u H3 Q
theorem cs {r:V→Option Int→Option Int→Hp→VK→Prop} (hr:SlR X r) (he:PE X e te) (hl:PO X lo tl) (hu:PO X hi th):PE X (.Subscript e (.Slice lo hi none p2) pos) (tSl r te tl th):=by
 intro pins s σ H Q I h;refine Subscript_ (thn (he pins s σ H _ I h) fun v s1 zy79=>?_);obtain⟨x,H1,I1,r1,q1⟩:=zy79;refine wpAny_Slice (thn (hl pins s1 σ H1 _ I1 q1) fun vl s2 zy80=>?_);obtain⟨l,H2,I2,pl,q2⟩:=zy80;refine thn (hu pins s2 σ H2 _ I2 q2) fun vu s3 zy81=>?_;obtain⟨u,H3,I3,pu,q3⟩:=zy81;rw[evalPart_none];refine wP ?_;have I4:Inv X pins σ H3 {s3 with heap:=s3.heap.push {cls:=.type "slice",data:=.fields #[vl,vu,.none]}}:=I3.kept (t':=s3.toks) fun b ob q=>hpS _ q;obtain⟨T,id,hT,ht,hg⟩:=hr pins {s3 with heap:=s3.heap.push {cls:=.type "slice",data:=.fields #[vl,vu,.none]}} σ H3 x v vl vu l u s3.heap.objs.size Q I4 r1 (Heap.IsSliceOf.new ..) pl pu q3;show wpAny (model X.prog X.w) X.A (subscriptTail e (.Slice lo hi none p2) v (.ref s3.heap.objs.size)) (EP X pins σ Q) X.xe {s3 with heap:=s3.heap.push {cls:=.type "slice",data:=.fields #[vl,vu,.none]}};exact tail_any (ops:=[.ref s3.heap.objs.size,v]) ht hT hg (by with_unfolding_all rfl)
def fi (xs:List V) (lo hi:Option Int):List V:=(xs.drop (HT.sIx xs.length 0 lo)).take (HT.sIx xs.length xs.length hi-HT.sIx xs.length 0 lo)
theorem gq (xs:List V) (lo hi:Option Int):(fi xs lo hi).length≤xs.length:=by
 unfold fi;rw[lTk,List.length_drop];exact Nat.le_trans (Nat.min_le_right _ _) (Nat.sub_le _ _)
def Bz (K:Fg):V→Option Int→Option Int→Hp→VK→Prop:=fun x lo hi H Q=>∃ a xs,x=.ref a∧SqT K H a xs ∧
  ¬ (HT.sIx xs.length 0 lo=0∧HT.sIx xs.length xs.length hi=xs.length)∧∀ p,H p=none→Q (.ref p) (upd H p (.tup (fi xs lo hi)))
theorem eY:SlR X (Bz X.K):=by
 intro pins s σ H x v vl vu lo hi sl Q I rx hs pl pu h;obtain⟨a,xs,rfl,hx,hw,q⟩:=h;cases rx;obtain⟨its,r,ht,hz⟩:=I.tuple hx;have hlen:its.toArray.size=xs.length:=by rw[List.size_toArray];exact r.length.symm
 refine⟨"tuple",_,PyProof.Rows.slot_tuple_getitem.lookup,ht.typeIs,?_⟩;refine HT.fR ht hs pl pu (by rw[hlen];exact hw) ?_ (by rw[hlen];exact hz);rw[hlen];refine⟨.ref s.heap.objs.size,_,I.laid (t':=s.toks) (o:=.tup (fi xs lo hi)) (fun b ob q=>hpS _ q) (Nat.le_refl _) ?_,rfl,q _ (I.hok.fresh (Nat.le_refl _))⟩;exact⟨Nat.le_trans (gq xs lo hi) hz,_,(r.drop (HT.sIx xs.length 0 lo)).take (HT.sIx xs.length xs.length hi-HT.sIx xs.length 0 lo),IsTup.new _ _⟩
def yN (K:Fg):R2:=fun x y H Q=>∃ a b xs ys,x=.ref a∧y=.ref b∧SqT K H a xs∧SqT K H b ys∧xs≠[]∧xs.length+ys.length≤sizeLine ∧
  (ys=[]→Q (.ref a) H)∧(ys≠[]→∀ p,H p=none→Q (.ref p) (upd H p (.tup (xs++ys))))
theorem aQ.nil_iff {xs:List V} {us:List Value} (r:aQ xs us):us=[]↔xs=[]:=by
 cases r with
 | nil=>simp
 | cons _ _=>simp
theorem sE:OpR X (binaryOp .Add) (yN X.K):=by
 intro pins s σ H x y v u Q I rx ry h;obtain⟨a,b,xs,ys,rfl,rfl,ha,hb,hx,hz,q1,q2⟩:=h;cases rx;cases ry;obtain⟨its,r1,p1,_⟩:=I.tuple ha;obtain⟨its2,r2,p2,_⟩:=I.tuple hb;refine HT.tw p1 p2 (fun z=>hx (r1.nil_iff.mp z)) (fun z=>⟨.ref a,H,I,rfl,q1 (r2.nil_iff.mp z)⟩) (fun z=>?_) (by rw[← r1.length,← r2.length];exact hz);refine⟨.ref s.heap.objs.size,_,I.laid (t':=s.toks) (o:=.tup (xs++ys)) (fun b ob q=>hpS _ q) (Nat.le_refl _) ?_,rfl,q2 (fun w=>z (r2.nil_iff.mpr w)) _ (I.hok.fresh (Nat.le_refl _))⟩;exact⟨by rw[lAp];exact hz,_,r1.append r2,IsTup.new _ _⟩
end
def ixN (n:Nat) (i:Int):Option Nat:=if 0≤i then (if i<n then some i.toNat else none) else if -(n:Int)≤i then some (i+n).toNat else none
def atI {α:Type} (xs:List α) (i:Int):Option α:=(ixN xs.length i).bind fun j=>xs[j]?
theorem sS {n:Nat} {i:Int} {j:Nat} (h:ixN n i=some j):seqIndex? i n=some j∧j<n∧-(n:Int)≤i∧i<n:=by
 unfold ixN at h;by_cases h0:0≤i
 · rw[if_pos h0] at h;by_cases h1:i<n
   · rw[if_pos h1] at h;have e:i.toNat=j:=Option.some.inj h;exact⟨by rw[seqIndex_of h0 h1,e],by lia,by lia,h1⟩
   · rw[if_neg h1] at h;cases h
 · rw[if_neg h0] at h;by_cases h1:-(n:Int)≤i
   · rw[if_pos h1] at h;have e:(i+n).toNat=j:=Option.some.inj h;exact⟨by rw[seqIndex_neg (by lia) h1,e],by lia,h1,by lia⟩
   · rw[if_neg h1] at h;cases h
theorem jN {α:Type} {xs:List α} {i:Int} {v:α} (h:atI xs i=some v):∃ j,seqIndex? i xs.length=some j∧xs[j]?=some v∧j<xs.length∧-(xs.length:Int)≤i∧i<xs.length:=by
 unfold atI at h;cases e:ixN xs.length i with
 | none=>rw[e] at h;cases h
 | some j =>
  rw[e] at h;obtain⟨h1,h2,h3,h4⟩:=sS e;exact⟨j,h1,h,h2,h3,h4⟩
theorem pJ {α:Type} {xs:List α} {j:Nat} {v:α} (h:xs[j]?=some v):atI xs (j:Int)=some v:=by
 have hj:j<xs.length:=(gES.mp h).1;have e:ixN xs.length (j:Int)=some j:=by
  unfold ixN;rw[if_pos (by lia),if_pos (by lia)];simp
 unfold atI;rw[e];exact h
theorem qP {α:Type} (xs:List α) (v:α):atI (xs++[v]) (-1)=some v:=by
 have hl:(xs++[v]).length=xs.length+1:=by simp
 have e:ixN (xs++[v]).length (-1)=some xs.length:=by
  unfold ixN;rw[hl,if_neg (by decide),if_pos (by lia)];congr 1;lia
 unfold atI;rw[e];show (xs++[v])[xs.length]?=some v;simp
def tM (b:Expr):Prop:=∀ o i,subscripted b false o i=operate [o,i] (getItem o i)
def IxR (X:Cx) (r:R2):Prop :=
  ∀ (value slice:Expr) (pins:AOs) (s:Shared) (σ:St) (H:Hp) (x y:V) (v u:Value) (Q:VK),Inv X pins σ H s→aT x v→aT y u→r x y H Q →
    subscripted slice false v u=operate [v,u] (getItem v u)→wpAny (model X.prog X.w) X.A (subscriptTail value slice v u) (EP X pins σ Q) X.xe s
def MtR (X:Cx) (id:String) (r:V→List V→Hp→VK→Prop):Prop :=
  ∀ (pins:AOs) (s:Shared) (σ:St) (H:Hp) (x:V) (xs:List V) (v:Value) (us:List Value) (Q:VK),Inv X pins σ H s→aT x v→aQ xs us→r x xs H Q →
    wpAny (model X.prog X.w) X.A (call (.builtin id) (v::us)) (EP X pins σ Q) X.xe s
inductive AW (K:Fg) (xs:List V) (H:Hp) (Q:VK):Prop
  | mk (p:Addr) (ys:List V) (h1:xs=[.ref p]) (h2:SqL K H p ys∨SqT K H p ys) (q:Q (.int ys.length) H):AW K xs H Q
def vG (K:Fg):List V→Hp→VK→Prop:=fun xs H Q=>AW K xs H Q
inductive qS (K:Fg) (xs:List V) (H:Hp) (Q:VK):Prop
  | mk (p:Addr) (ys:List V) (h1:xs=[.ref p]) (h2:(SqL K H p ys∧∀ l,H l=none→Q (.ref l) (upd H l (.tup ys)))∨(SqT K H p ys∧Q (.ref p) H)):qS K xs H Q
def pU (K:Fg):List V→Hp→VK→Prop:=fun xs H Q=>qS K xs H Q
section
variable {X:Cx} {a b:Expr} {ta tb:TE} {pos:Pos}
theorem IxR.or {r r':R2} (h:IxR X r) (h':IxR X r'):IxR X (fun x y H Q=>r x y H Q∨r' x y H Q):=by
 intro value slice pins s σ H x y v u Q I rx ry q hs
 rcases q with q | q
 · exact h value slice pins s σ H x y v u Q I rx ry q hs
 · exact h' value slice pins s σ H x y v u Q I rx ry q hs
theorem aq {r:R2} (hr:IxR X r) (ha:PE X a ta) (hb:PE X b tb) (hs:tM b):PE X (.Subscript a b pos) (tOp r ta tb):=by
 intro pins s σ H Q I h;exact Subscript_ (wQ ha hb I h fun v u s2 x y H2 I2 rx ry q=>hr a b pins s2 σ H2 x y v u Q I2 rx ry q (hs _ _))
inductive B0 (K:Fg) (x y:V) (H:Hp) (Q:VK):Prop
  | mk (p:Addr) (xs:List V) (i:Int) (v:V) (h:x=.ref p) (h':y=.int i) (s:SqL K H p xs) (a:atI xs i=some v) (q:Q v H):B0 K x y H Q
inductive AZ (K:Fg) (x y:V) (H:Hp) (Q:VK):Prop
  | mk (p:Addr) (xs:List V) (i:Int) (v:V) (h:x=.ref p) (h':y=.int i) (s:SqT K H p xs) (a:atI xs i=some v) (q:Q v H):AZ K x y H Q
def pV (K:Fg):R2:=fun x y H Q=>B0 K x y H Q
def nG (K:Fg):R2:=fun x y H Q=>AZ K x y H Q
def vH:R2:=fun x y H Q=>∃ z i c,x=.str z∧y=.int i∧z.length≤sizeLine∧atI z.cps.toList i=some c∧Q (.str ⟨#[c]⟩) H
theorem aH:IxR X (pV X.K):=by
 intro value slice pins s σ H x y v u Q I rx ry h hs;obtain⟨p,xs,i,z,rfl,rfl,hq,he,q⟩:=h;cases rx;obtain⟨t,rfl⟩:=ry;obtain⟨its,r,pl,hz⟩:=I.list hq;obtain⟨j,h1,h2,h3,h4,h5⟩:=jN he;obtain⟨w,ew,rw'⟩:=r.get h2;have hl:=r.length;have hn:=ik;have fin:EP X pins σ Q w s:=⟨z,H,I,rw',q⟩;by_cases h0:0≤i
 · have hj:i.toNat=j:=by
    rw[seqIndex_of h0 h5] at h1;exact Option.some.inj h1
   exact item_listR pl.isList h0 (by lia) (by rw[hj];simpa using ew) fin hs
 · have hj:(i+(its.toArray.size:Int)).toNat=j:=by
    rw[seqIndex_neg (by lia) h4] at h1;rw[List.size_toArray,← hl];exact Option.some.inj h1
   exact subscriptTail_builtinR (x:=w) pl.isList.typeIs slot_list_getitem.lookup
    (wpAny_getItem_list_neg (Q:=fun r s'=>r=w∧EP X pins σ Q r s') pl.isList (by lia) (by rw[List.size_toArray] <;> lia) (by lia) (by rw[hj];simpa using ew) ⟨rfl,fin⟩) hs
theorem aF:IxR X (nG X.K):=by
 intro value slice pins s σ H x y v u Q I rx ry h hs;obtain⟨p,xs,i,z,rfl,rfl,hq,he,q⟩:=h;cases rx;obtain⟨t,rfl⟩:=ry;obtain⟨its,r,pl,hz⟩:=I.tuple hq;obtain⟨j,h1,h2,h3,h4,h5⟩:=jN he;obtain⟨w,ew,rw'⟩:=r.get h2;have hl:=r.length;have hn:=ik;have fin:EP X pins σ Q w s:=⟨z,H,I,rw',q⟩;exact subscriptTail_builtinR (x:=w) pl.typeIs slot_tuple_getitem.lookup
  (getItem_tuple (j:=j) (Q:=fun r s'=>r=w∧EP X pins σ Q r s') pl (by lia) (by lia) (by rw[List.size_toArray,← hl];exact h1) (by simpa using ew) ⟨rfl,fin⟩) hs
theorem qo:IxR X vH:=by
 intro value slice pins s σ H x y v u Q I rx ry h hs;obtain⟨z,i,c,rfl,rfl,hz,he,q⟩:=h;obtain⟨t,rfl⟩:=rx;obtain⟨t',rfl⟩:=ry;obtain⟨j,h1,h2,h3,h4,h5⟩:=jN he;have hl:z.cps.toList.length=z.length:=by simp[Str.length]
 rw[hl] at h1 h4 h5;have hn:=ik;exact tail_any (typeIs_str s z t) slot_str_getitem.lookup (getItem_str (c:=c) (by
   have e1:decide (i < -(2 ^ 63:Int))=false:=decide_eq_false (by lia);have e2:decide (i≥2 ^ 63)=false:=decide_eq_false (by lia);rw[e1,e2,Bool.or_false]) (by rw[h1];simpa using h2) ⟨.str ⟨#[c]⟩,H,I.tok _,⟨_,rfl⟩,q⟩) hs
def rIx (K:Fg):R2:=fun x y H Q=>pV K x y H Q∨nG K x y H Q∨vH x y H Q
theorem wt:IxR X (rIx X.K):=aH.or (aF.or qo)
theorem pp {i:Int} {n:Nat} (h:i<0):max 0 (min (i+(n:Int)) (n:Int))=((i+(n:Int)).toNat:Int):=by
 rw[Int.min_eq_left (by lia),Int.ofNat_toNat,Int.max_comm]
theorem ph {i:Int} {n:Nat} (h:¬ i<0):max 0 (min i (n:Int))=((min i.toNat n:Nat):Int):=by
 rw[HT.kR i n h];exact Int.max_eq_right (Int.natCast_nonneg _)
theorem jl (lo hi:Option Int) (n:Nat):(sliceBounds lo hi none n).1=((HT.sIx n 0 lo:Nat):Int)∧(sliceBounds lo hi none n).2.1=((HT.sIx n n hi:Nat):Int)∧(sliceBounds lo hi none n).2.2=1:=by
 refine⟨?_,?_,rfl⟩
 · cases lo with
   | none=>simp[sliceBounds,HT.sIx]
   | some i =>
    simp only[sliceBounds,HT.sIx,Option.getD_none,show (1:Int)>0 by decide,if_true];by_cases h:i<0
    · simp only[h,if_true];exact pp h
    · simp only[h,if_false];exact ph h
 · cases hi with
   | none=>simp[sliceBounds,HT.sIx]
   | some i =>
    simp only[sliceBounds,HT.sIx,Option.getD_none,show (1:Int)>0 by decide,if_true];by_cases h:i<0
    · simp only[h,if_true];exact pp h
    · simp only[h,if_false];exact ph h
theorem iE (its:List Value) (lo hi:Option Int):slicePick its.toArray lo hi none=((its.drop (HT.sIx its.length 0 lo)).take (HT.sIx its.length its.length hi-HT.sIx its.length 0 lo)).toArray:=by
 obtain⟨h1,h2,h3⟩:=jl lo hi its.toArray.size;unfold slicePick;rw[h1,h2,h3];simp only[sliceRange_one,pick_run,List.size_toArray] <;> rfl
def BA (K:Fg):V→Option Int→Option Int→Hp→VK→Prop:=fun x lo hi H Q=>∃ a xs,x=.ref a∧SqL K H a xs∧∀ p,H p=none→Q (.ref p) (upd H p (.lst (fi xs lo hi)))
theorem gE:SlR X (BA X.K):=by
 intro pins s σ H x v vl vu lo hi sl Q I rx hs pl pu h;obtain⟨a,xs,rfl,hx,q⟩:=h;cases rx;obtain⟨its,r,ht,hz⟩:=I.list hx;have hlen:=r.length;refine⟨"list",_,slot_list_getitem.lookup,ht.isList.typeIs,?_⟩;refine wpAny_getItem_list_slice ht.isList hs pl pu .none (by simp) ?_ (by rw[List.size_toArray] <;> lia);rw[iE,← hlen];refine⟨.ref s.heap.objs.size,_,I.laid (t':=s.toks) (o:=.lst (fi xs lo hi)) (fun b ob q=>hpS _ q) (Nat.le_refl _) ?_,rfl,q _ (I.hok.fresh (Nat.le_refl _))⟩;exact⟨Nat.le_trans (gq xs lo hi) hz,_,0,(r.drop (HT.sIx xs.length 0 lo)).take (HT.sIx xs.length xs.length hi-HT.sIx xs.length 0 lo),Heap.get?_push_size _ rfl⟩
def eU:V→Bool
  | .non=>true
  | .bl _=>true
  | .int _=>true
  | .str _=>true
  | _=>false
def eqV:V→V→Bool
  | .non,.non=>true
  | .bl a,.bl b=>a==b
  | .bl a,.int b=>(if a then 1 else 0)==b
  | .int a,.bl b=>a==(if b then 1 else 0)
  | .int a,.int b=>a==b
  | .str a,.str b=>a==b
  | _,_=>false
theorem wG {A:Around} {s:Shared} {y x:V} {u v:Value} (ry:aT y u) (rx:aT x v) (fy:eU y=true) (fx:eU x=true):SeqAt.EqAt A s u v (eqV y x):=by
 cases y with
 | non =>
  cases ry;cases x with
  | non=>cases rx;exact SeqAt.EqAt.same _
  | bl b=>cases rx;exact SeqAt.EqAt.none_bool b
  | int b=>obtain⟨t,rfl⟩:=rx;exact SeqAt.EqAt.none_int b t
  | str b=>obtain⟨t,rfl⟩:=rx;exact SeqAt.EqAt.none_str b t
  | _=>exact absurd (show false=true from fx) Bool.false_ne_true
 | bl a =>
  cases ry;cases x with
  | non=>cases rx;exact SeqAt.EqAt.bool_none a
  | bl b=>cases rx;exact SeqAt.EqAt.bool_bool a b
  | int b=>obtain⟨t,rfl⟩:=rx;exact SeqAt.EqAt.bool_int a b t
  | str b=>obtain⟨t,rfl⟩:=rx;exact SeqAt.EqAt.bool_str a b t
  | _=>exact absurd (show false=true from fx) Bool.false_ne_true
 | int a =>
  obtain⟨t',rfl⟩:=ry;cases x with
  | non=>cases rx;exact SeqAt.EqAt.int_none a t'
  | bl b=>cases rx;exact SeqAt.EqAt.int_bool a t' b
  | int b=>obtain⟨t,rfl⟩:=rx;exact SeqAt.EqAt.int_int a t' b t
  | str b=>obtain⟨t,rfl⟩:=rx;exact SeqAt.EqAt.int_str a t' b t
  | _=>exact absurd (show false=true from fx) Bool.false_ne_true
 | str a =>
  obtain⟨t',rfl⟩:=ry;cases x with
  | non=>cases rx;exact SeqAt.EqAt.str_none a t'
  | bl b=>cases rx;exact SeqAt.EqAt.str_bool a t' b
  | int b=>obtain⟨t,rfl⟩:=rx;exact SeqAt.EqAt.str_int a t' b t
  | str b=>obtain⟨t,rfl⟩:=rx;exact SeqAt.EqAt.str_str a t' b t
  | _=>exact absurd (show false=true from fx) Bool.false_ne_true
 | _=>exact absurd (show false=true from fy) Bool.false_ne_true
def eqU (x:V) (u:Value):Bool:=match u with
  | .none=>eqV .non x
  | .bool b=>eqV (.bl b) x
  | .int i _=>eqV (.int i) x
  | .str z _=>eqV (.str z) x
  | _=>false
theorem qB {x y:V} {u:Value} (r:aT y u) (f:eU y=true):eqU x u=eqV y x:=by
 cases y with
 | non=>cases r;rfl
 | bl b=>cases r;rfl
 | int i=>obtain⟨t,rfl⟩:=r;rfl
 | str z=>obtain⟨t,rfl⟩:=r;rfl
 | _=>exact absurd (show false=true from f) Bool.false_ne_true
theorem gH {x:V}:∀ {xs:List V} {us:List Value},aQ xs us→xs.all eU=true→us.any (eqU x)=xs.any fun y=>eqV y x:=by
 intro xs us h
 induction h with
 | nil=>intro _;rfl
 | cons r t ih =>
  intro f;rw[List.all_cons,Bool.and_eq_true] at f;rw[List.any_cons,List.any_cons,qB r f.1,ih f.2]
theorem fN {A:Around} {s:Shared} {x:V} {v:Value} (rx:aT x v) (fx:eU x=true):∀ {xs:List V} {us:List Value},aQ xs us→xs.all eU=true→∀ u∈us,SeqAt.EqAt A s u v (eqU x u):=by
 intro xs us h
 induction h with
 | nil=>intro _ u hu;cases hu
 | cons r t ih =>
  intro f u hu;rw[List.all_cons,Bool.and_eq_true] at f
  rcases List.mem_cons.mp hu with rfl | hu
  · rw[qB r f.1];exact wG r rx f.1 fx
  · exact ih f.2 u hu
def inV (x:V) (xs:List V):Bool:=xs.any fun y=>eqV y x
def rIn (K:Fg) (neg:Bool):R2:=fun x y H Q=>∃ p xs,y=.ref p∧(SqL K H p xs∨SqT K H p xs)∧eU x=true∧xs.all eU=true∧Q (.bl (if neg then !inV x xs else inV x xs)) H
theorem cA:OpR X (compareOp .In) (rIn X.K false):=by
 intro pins s σ H x y v u Q I rx ry h;obtain⟨p,xs,rfl,hq,fx,fs,q⟩:=h;cases ry
 rcases hq with hq | hq
 · obtain⟨its,r,pl,hz⟩:=I.list hq;refine SeqAt.in_listAt (eqU x) pl.isList (fun w hw=>fN rx fx r fs w (by simpa using hw)) ⟨.bl _,H,I,rfl,?_⟩;rw[show its.toArray.any (eqU x)=its.any (eqU x) by simp,gH r fs];exact q
 · obtain⟨its,r,pl,hz⟩:=I.tuple hq;refine SeqAt.in_tupleAt (eqU x) pl (fun w hw=>fN rx fx r fs w (by simpa using hw)) ⟨.bl _,H,I,rfl,?_⟩;rw[show its.toArray.any (eqU x)=its.any (eqU x) by simp,gH r fs];exact q
theorem dC:OpR X (compareOp .NotIn) (rIn X.K true):=by
 intro pins s σ H x y v u Q I rx ry h;obtain⟨p,xs,rfl,hq,fx,fs,q⟩:=h;cases ry
 rcases hq with hq | hq
 · obtain⟨its,r,pl,hz⟩:=I.list hq;refine SeqAt.notIn_listAt (eqU x) pl.isList (fun w hw=>fN rx fx r fs w (by simpa using hw)) ⟨.bl _,H,I,rfl,?_⟩;rw[show its.toArray.any (eqU x)=its.any (eqU x) by simp,gH r fs];exact q
 · obtain⟨its,r,pl,hz⟩:=I.tuple hq;refine SeqAt.notIn_tupleAt (eqU x) pl (fun w hw=>fN rx fx r fs w (by simpa using hw)) ⟨.bl _,H,I,rfl,?_⟩;rw[show its.toArray.any (eqU x)=its.any (eqU x) by simp,gH r fs];exact q
theorem jK:fX X (.builtin "len") (vG X.K):=by
 intro pins s σ H xs us Q I r h;obtain⟨p,ys,rfl,hq,q⟩:=h;obtain⟨u,rfl,rx⟩:=jV r;cases rx;have hn:=ik
 rcases hq with hq | hq
 · obtain⟨its,r',pl,hz⟩:=I.list hq;have hlen:=r'.length;exact Calls.call_len_list pl.isList (by simp only[List.size_toArray] <;> lia) ⟨.int ys.length,H,I.tok _,⟨s.toks+1,by rw[List.size_toArray,hlen]⟩,q⟩
 · obtain⟨its,r',pl,hz⟩:=I.tuple hq;have hlen:=r'.length;exact len_tuple pl (by simp only[List.size_toArray] <;> lia) ⟨.int ys.length,H,I.tok _,⟨s.toks+1,by rw[List.size_toArray,hlen]⟩,q⟩
theorem jJ:fX X (.type "list") (fun xs H Q=>∃ p ys,xs=[.ref p]∧(SqL X.K H p ys∨SqT X.K H p ys)∧∀ l,H l=none→Q (.ref l) (upd H l (.lst ys))):=by
 intro pins s σ H xs us Q I r h;obtain⟨p,ys,rfl,hq,q⟩:=h;obtain⟨u,rfl,rx⟩:=jV r;cases rx;have fin:∀ (its:List Value),aQ ys its→ys.length≤sizeLine→∀ (h':Heap) (c':Nat),(∀ b o',s.heap.get? b=some o'→h'.get? b=some o') →
  h'.get? s.heap.objs.size=some {cls:=.type "list",dict:=none,data:=.seq its.toArray c',slots:=#[]}→EP X pins σ Q (.ref s.heap.objs.size) {s with heap:=h'}:=fun its r' hz h' c' kp e =>
  ⟨.ref s.heap.objs.size,_,I.laid (t':=s.toks) kp (Nat.le_refl _) (show bj X.prog X.w _ h' _ (.lst ys) from ⟨hz,its,c',r',e⟩),rfl,q _ (I.hok.fresh (Nat.le_refl _))⟩
 rcases hq with hq | hq
 · obtain⟨its,r',pl,hz⟩:=I.list hq;have hlen:=r'.length;obtain⟨o,ho,hc,n,hd⟩:=pl.isList;exact call_list_seq p (.inl rfl) ho hc hd (fun h' c' kp e=>fin its r' hz h' c' kp e) (by simp only[List.size_toArray] <;> lia)
 · obtain⟨its,r',pl,hz⟩:=I.tuple hq;have hlen:=r'.length;obtain⟨o,ho,hc,n,hd⟩:=pl;exact call_list_seq p (.inr rfl) ho hc hd (fun h' c' kp e=>fin its r' hz h' c' kp e) (by simp only[List.size_toArray] <;> lia)
theorem iI:fX X (.type "tuple") (pU X.K):=by
 intro pins s σ H xs us Q I r h;obtain⟨p,ys,rfl,h⟩:=h;obtain⟨u,rfl,rx⟩:=jV r;cases rx
 rcases h with ⟨hq,q⟩ | ⟨hq,q⟩
 · obtain⟨its,r',pl,hz⟩:=I.list hq;have hlen:=r'.length;refine call_tuple_list pl.isList (fun h' kp=>?_) (by simp only[List.size_toArray] <;> lia);have I1:Inv X pins σ H {s with heap:=h'}:=I.kept (t':=s.toks) kp;have I2:Inv X pins σ (upd H h'.objs.size (.tup ys)) {s with heap:=h'.push {cls:=.type "tuple",data:=.seq its.toArray}} :=
    I1.laid (t':=s.toks) (fun b o e=>hpS _ e) (Nat.le_refl _) (show bj X.prog X.w _ _ _ (.tup ys) from ⟨hz,its,r',IsTup.new _ _⟩)
   exact⟨.ref h'.objs.size,_,I2,rfl,q _ (I1.hok.fresh (Nat.le_refl _))⟩
 · obtain⟨its,r',pl,hz⟩:=I.tuple hq;exact call_tuple_same pl ⟨.ref p,H,I,rfl,q⟩
def tyV (K:Fg) (T:String) (x:V) (H:Hp):Prop:=match x with
  | .str _=>T="str"
  | .int _=>T="int"
  | .ref p=>(T="list"∧∃ xs,SqL K H p xs)∨(T="tuple"∧∃ o,K.lookup p=some o∧o.cls=.type "tuple"∧o.dict=none) ∨
      (T="dict"∧((∃ kvs,H p=some (.dK kvs))∨∃ kvs,H p=some (.dT kvs)))∨(T="set"∧∃ S n,H p=some (.set S n))
  | _=>False
theorem oN {pins:AOs} {σ:St} {H:Hp} {s:Shared} {T:String} {x:V} {v:Value} (I:Inv X pins σ H s) (r:aT x v) (ty:tyV X.K T x H) :
 s.TypeIs v T∧∀ a,v=.ref a→∃ ob,s.heap.get? a=some ob∧ob.dict=none:=by
 cases x with
 | str z =>
  obtain⟨t,rfl⟩:=r;cases (show T="str" from ty);exact⟨typeIs_str s z t,fun _ e=>nomatch e⟩
 | int i =>
  obtain⟨t,rfl⟩:=r;cases (show T="int" from ty);exact⟨typeIs_int s i t,fun _ e=>nomatch e⟩
 | ref p =>
  cases r
  rcases ty with ⟨rfl,xs,hq⟩ | ⟨rfl,o,hk,hc,hd⟩ | ⟨rfl,hk⟩ | ⟨rfl,S,n,hk⟩
  · obtain⟨its,_,pl,_⟩:=I.list hq;refine⟨pl.isList.typeIs,fun a e=>?_⟩;cases e;obtain⟨o,n,e,c,hd,_⟩:=pl;exact⟨o,e,hd⟩
  · refine⟨⟨o,I.kIn p o hk,hc⟩,fun a e=>?_⟩;cases e;exact⟨o,I.kIn _ o hk,hd⟩
  · have z:∃ o,s.heap.get? p=some o∧o.ExactDict:=by
     rcases hk with ⟨kvs,hk⟩ | ⟨kvs,hk⟩
     · obtain⟨_,_,_,_,o,_,_,e,ex,_⟩:=I.hok p _ hk;exact⟨o,e,ex⟩
     · obtain⟨_,_,_,_,o,_,_,e,ex,_⟩:=I.hok p _ hk;exact⟨o,e,ex⟩
    obtain⟨o,e,ex⟩:=z;refine⟨⟨o,e,ex.1⟩,fun a e2=>?_⟩;cases e2;exact⟨o,e,ex.2.1⟩
  · obtain⟨o,_,_,_,e,ex,_⟩:=I.hok p _ hk;refine⟨⟨o,e,ex.1⟩,fun a e2=>?_⟩;cases e2;exact⟨o,e,ex.2.1⟩
 | _=>exact False.elim ty
def xA (K:Fg) (T:String) (r:V→List V→Hp→VK→Prop) (to:TE):TE:=fun σ H Q=>to σ H fun x H1=>tyV K T x H1∧r x [] H1 Q
def tBM (K:Fg) (T:String) (r:V→List V→Hp→VK→Prop) (to:TE) (t:TA):TE:=fun σ H Q=>to σ H fun x H1=>tyV K T x H1∧t σ H1 fun xs H2=>r x xs H2 Q
variable {o e:Expr} {es:List Expr} {to:TE} {t:TA} {name:Str} {apos cpos:Pos} {T id:String} {r:V→List V→Hp→VK→Prop}
theorem vN (pa:PlainAttrs T) (slot:Slot T name id) (hty:typeOf (.builtin id)=pure (.type "method_descriptor")) (hm:MtR X id r) (ho:PE X o to)
 (hbase:attributeBase o name X.env (eval o X.env)=eval o X.env:=by rfl) (hline:(apos.endLine==cpos.line)=true:=by rfl):PE X (.Call (.Attribute o name apos) [] [] cpos) (xA X.K T r to):=by
 intro pins s σ H Q I h;refine wpAny_Call_method0_late hbase hline (thn (ho pins s σ H _ I h) fun v s1 zy82=>?_);obtain⟨x,H1,I1,r1,ty,q1⟩:=zy82;obtain⟨h1,h2⟩:=oN I1 r1 ty;exact⟨T,id,pa,slot,hty,h1,h2,Calls.callWith_builtin rfl (PySem.evalArgs_none (hm pins s1 σ H1 x [] v [] Q I1 r1 .nil q1))⟩
theorem u4 (pa:PlainAttrs T) (slot:Slot T name id) (hty:typeOf (.builtin id)=pure (.type "method_descriptor")) (hm:MtR X id r) (ho:PE X o to) (ha:PA X (e::es) t)
 (hbase:attributeBase o name X.env (eval o X.env)=eval o X.env:=by rfl)
 (hfew:((backTo cpos (starEach (e::es) X.env)).all (fun x=>!x.1)&&(backToKw cpos (keywordEach [] X.env)).all (fun x=>x.1.isSome)
   && decide ((e::es).length+([]:List Keyword).length+(if ([]:List Keyword).isEmpty then 0 else 1)<30))=true:=by rfl)
 (hline:(apos.endLine==cpos.line)=true:=by rfl) (hs:starEach (e::es) X.env=(false,eval e X.env)::starEach es X.env:=by rfl) (hplain:(backTo cpos (starEach es X.env)).any (·.1)=false:=by rfl) :
 PE X (.Call (.Attribute o name apos) (e::es) [] cpos) (tBM X.K T r to t):=by
 intro pins s σ H Q I h;refine wpAny_Call_method_late hbase hfew hline rfl (thn (ho pins s σ H _ I h) fun v s1 zy83=>?_);obtain⟨x,H1,I1,r1,ty,q1⟩:=zy83;obtain⟨h1,h2⟩:=oN I1 r1 ty;refine⟨T,id,pa,slot,hty,h1,h2,?_⟩;have hA:=ha cpos pins s1 σ H1 _ I1 q1;rw[hs] at hA ⊢;refine Calls.callWith_builtin (by show (false||(backTo cpos (starEach es X.env)).any (·.1))=false;rw[hplain] <;> rfl) (Calls.evalArgs_plain ?_);refine thn hA fun us s2 zy84=>?_;obtain⟨vs,H2,I2,r2,q2⟩:=zy84;exact hm pins s2 σ H2 x vs v us Q I2 r1 r2 q2
/- xs.append(e),list.index on a module's tuple .. are MtR facts of 06m -/
end
def MtM (X:Cx) (id:String) (r:V→List V→Hp→VK→Prop):Prop :=
  ∀ (pins:AOs) (s:Shared) (σ:St) (H:Hp) (x:V) (xs:List V) (v:Value) (us:List Value) (Q:VK),Inv X pins σ H s→aT x v→aQ xs us→r x xs H Q →
    wpAny (model X.prog X.w) X.A (call (.builtin id) (v::us)) (EP X pins σ Q) X.xe s
theorem aQ.one:∀ {x:V} {us:List Value},aQ [x] us→∃ u,us=[u]∧aT x u:=by
 intro x us h;cases h with
 | cons r t=>cases t;exact⟨_,rfl,r⟩
theorem aQ.two:∀ {x y:V} {us:List Value},aQ [x,y] us→∃ u v,us=[u,v]∧aT x u∧aT y v:=by
 intro x y us h;cases h with
 | cons r t=>obtain⟨u,rfl,q⟩:=aQ.one t;exact⟨_,_,rfl,r,q⟩
theorem aQ.zero:∀ {us:List Value},aQ [] us→us=[]
 | _,.nil=>rfl
theorem aQ.dropLast {xs:List V} {us:List Value} (h:aQ xs us):aQ xs.dropLast us.dropLast:=by
 induction h with
 | nil=>exact .nil
 | cons r t ih =>
  cases t with
  | nil=>exact .nil
  | cons q t'=>exact .cons r ih
theorem lN {α:Type} (l:List α):l.eraseIdx (l.length-1)=l.dropLast:=by
 induction l with
 | nil=>rfl
 | cons a r ih =>
  cases r with
  | nil=>rfl
  | cons b r =>
   have e:(a::b::r).length-1=((b::r).length-1)+1:=by
    have h1:(a::b::r).length=r.length+2:=rfl;have h2:(b::r).length=r.length+1:=rfl;lia
   rw[e,List.eraseIdx_cons_succ,ih]
   all_goals rfl
section
variable {X:Cx} {pins:AOs} {σ:St} {H:Hp} {s:Shared} {l b:Addr} {xs ys zs:List V}
theorem Inv.lset {its its':List Value} {n:Nat} {f:Array Value→Array Value} {t':Nat} (I:Inv X pins σ H s) (hH:H l=some (.lst xs))
 (e:s.heap.get? l=some {cls:=.type "list",data:=.seq its.toArray n}) (hf:f its.toArray=its'.toArray) (hv:aQ ys its') (hz:ys.length≤sizeLine) :
 Inv X pins σ (upd H l (.lst ys)) {s with heap:=s.heap.update l (Obj.mapSeq f),toks:=t'}:=by
 have q:=PySem.IsL.update e f;rw[hf] at q;refine I.write (x:=l) (e:=l) (by rw[hH];exact trivial) (.inl rfl) (fun b' u hb hu=>(Heap.get?_update_other s.heap (Obj.mapSeq f) (Ne.symm hb)).trans hu) ⟨_,q⟩ ?_;exact⟨hz,its',_,hv,q⟩
theorem Inv.lnew {its:List Value} {t':Nat} (I:Inv X pins σ H s) (hv:aQ ys its) (hz:ys.length≤sizeLine) :
 Inv X pins σ (upd H s.heap.objs.size (.lst ys)) {s with heap:=s.heap.push {cls:=.type "list",data:=.seq its.toArray},toks:=t'} :=
 I.laid (fun _ _ q=>hpS _ q) (Nat.le_refl _) ⟨hz,its,0,hv,Heap.get?_push_size _ rfl⟩
theorem Inv.fresh (I:Inv X pins σ H s):H s.heap.objs.size=none:=I.hok.fresh (Nat.le_refl _)
theorem Inv.lstM (I:Inv X pins σ H s) (hH:H l=some (.lst xs)):xs.length≤sizeLine∧∃ (its:List Value) (n:Nat),aQ xs its∧xs.length=its.length∧s.heap.get? l=some {cls:=.type "list",data:=.seq its.toArray n}:=by
 obtain⟨z,its,n,r,e⟩:=I.hok l _ hH;exact⟨z,its,n,r,r.length,e⟩
theorem qh {n:Nat} (h:n≤sizeLine):Builtin.List.listTooLong n=false:=by
 unfold Builtin.List.listTooLong;exact decide_eq_false (by lia)
end
section
variable {X:Cx}
inductive B3 (x:V) (vs:List V) (H:Hp) (Q:VK):Prop
  | mk (l:Addr) (xs:List V) (y:V) (h1:x=.ref l) (h2:vs=[y]) (h3:H l=some (.lst xs)) (h4:xs.length<sizeLine) (q:Q .non (upd H l (.lst (xs++[y])))):B3 x vs H Q
def jo:V→List V→Hp→VK→Prop:=fun x vs H Q=>B3 x vs H Q
theorem iX:MtM X "list.append" jo:=by
 intro pins s σ H x vs v us Q I rx rv h;obtain⟨l,xs,y,rfl,rfl,hH,hz,q⟩:=h;cases rx;obtain⟨u,rfl,ru⟩:=rv.one;obtain⟨z,its,n,r,hl,e⟩:=I.lstM hH;refine call_meets F.slot_list_append ⟨_,e,rfl⟩ F.entry_list_append (F.args_list_append_2 _ _) (PySem.list_append l its.toArray n u (by rw[List.size_toArray];lia)) ⟨e,?_⟩;refine⟨.non,_,I.lset (its':=its++[u]) hH e (by simp) (r.append (.cons ru .nil)) ?_,rfl,q⟩;rw[lAp,List.length_singleton];lia
def my:V→List V→Hp→VK→Prop:=fun x vs H Q=>∃ l b xs zs,x=.ref l∧vs=[.ref b]∧H l=some (.lst xs)∧H b=some (.lst zs)∧xs.length+zs.length≤sizeLine∧Q .non (upd H l (.lst (xs++zs)))
theorem nN:MtM X "list.extend" my:=by
 intro pins s σ H x vs v us Q I rx rv h;obtain⟨l,b,xs,zs,rfl,rfl,hH,hB,hz,q⟩:=h;cases rx;obtain⟨u,rfl,ru⟩:=rv.one;cases ru;obtain⟨z,its,n,r,hl,e⟩:=I.lstM hH;obtain⟨z2,its2,n2,r2,hl2,e2⟩:=I.lstM hB;have hsz:its.toArray.size+its2.toArray.size≤sizeLine:=by rw[List.size_toArray,List.size_toArray];lia
 have hlong:¬ (!its.toArray.isEmpty&&Builtin.List.listTooLong (its.toArray.size+its2.toArray.size))=true:=by
  rw[qh hsz,Bool.and_false];exact Bool.false_ne_true
 refine call_meets F.slot_list_extend ⟨_,e,rfl⟩ F.entry_list_extend (F.args_list_extend_2 _ _)
  (AutoSeq1.list_extend_list_list_0 l its.toArray n b its2.toArray n2 hlong (by rw[List.size_toArray];lia) (by lia)) ⟨e,e2,?_⟩
 refine⟨.non,_,I.lset (its':=its++its2) hH e (by simp) (r.append r2) ?_,rfl,q⟩;rw[lAp];lia
def yI:V→List V→Hp→VK→Prop:=fun x vs H Q=>∃ l xs y,x=.ref l∧vs=[]∧H l=some (.lst xs)∧xs[xs.length-1]?=some y∧Q y (upd H l (.lst xs.dropLast))
theorem wb:MtM X "list.pop" yI:=by
 intro pins s σ H x vs v us Q I rx rv h;obtain⟨l,xs,y,rfl,rfl,hH,hy,q⟩:=h;cases rx;have hus:=rv.zero;subst hus;obtain⟨z,its,n,r,hl,e⟩:=I.lstM hH;obtain⟨u,hu,ru⟩:=r.get hy;have hy':its.toArray[its.toArray.size-1]?=some u:=by
  show its.toArray[its.length-1]?=some u;rw[← Array.getElem?_toList,← hl];exact hu
 refine call_meets F.slot_list_pop ⟨_,e,rfl⟩ F.entry_list_pop (F.args_list_pop_1 _) (MeetsSeq.list_pop_last l its.toArray n u hy' (by rw[List.size_toArray];lia)) ⟨e,?_⟩;refine⟨y,_,I.lset (its':=its.dropLast) hH e ?_ r.dropLast ?_,ru,q⟩
 · show its.toArray.eraseIdxIfInBounds (its.toArray.size-1)=its.dropLast.toArray;rw[List.size_toArray,List.eraseIdxIfInBounds_toArray,lN]
 · rw[List.length_dropLast];lia
end
section
variable {prog:Program} {w:World} {A:Around} {E:VSP} {s:Shared}
set_option maxRecDepth 100000 in
end
section
variable {X:Cx}
end
end L2
namespace Att
open PySem PySem.W PySem.Calls PyProof.Rows
theorem gy {P:Params} {h:Heap}:∀ (ns:List Int) (vs:List Value),WellAll P h vs (ns.map WData.int)→IntsAre vs ns:=by
 intro ns
 induction ns with
 | nil =>
  intro vs w;rw[List.map_nil] at w;cases w;exact .nil
 | cons n ns ih =>
  intro vs w;rw[List.map_cons] at w;cases w with
  | cons a b =>
   cases a;exact .cons _ _ (ih _ b)
theorem nF {l:OpenLaw} {n:Nat} (hn:l.most=some n) {P:Params} {h:Heap} {args:List WData} {vals:List Value}
 (hpre:l.row.toRowW.claim.pre args=true) (hwl:WellAll P h vals args) :
 ∃ a vs ns,vals=[Value.ref a]∧args=[WData.list (ns.map WData.int)]∧h.get? a=some {cls:=.type "list",data:=.seq vs.toArray}∧IntsAre vs ns∧ns.length≤n:=by
 have hsh:WShape.hasAll [] args [.list .int]=true:=(pre_splitW hpre).1;have hc:l.pre.holds [] {args:=args}=true:=(pre_splitW hpre).2;obtain⟨d,r,rfl,h1,h2⟩:=hasAllW_cons hsh;obtain rfl:=hasAllW_nil h2;obtain⟨xs,rfl,h3⟩:=hasW_list h1;obtain⟨ns,rfl⟩:=items_int h3;have hlen:ns.length≤n:=by
  unfold OpenLaw.pre at hc;have h4:(WTm.not (.lt (.lit (.int (n:Int))) (.len (.arg 0)))).holds [] {args:=[.list (ns.map .int)]}=true:=by
   have h4:=(holds_andW hc).1;rw[hn] at h4;exact h4
  have h5:=condW_of h4 (w_not (w_lt w_lit (w_len_list (w_arg rfl))));rw[lMp] at h5;refine Nat.le_of_not_lt fun q=>?_;have q':(n:Int)<((ns.length:Nat):Int):=by lia
  first
   | (rw[decide_eq_true q'] at h5;exact absurd h5 (by decide))
   | (simp at h5;lia)
 cases hwl with
 | cons w1 w2 =>
  cases w2;cases w1 with
  | list ho hall=>exact⟨_,_,ns,rfl,rfl,ho,gy ns _ hall,hlen⟩
theorem nK (l:OpenLaw) (args:List WData):l.row.toRowW.claim.post args (.bool true) args=true :=
 postW_of (r:=l.row.toRowW) (X:=(true==true))
  (show WShape.has [] (.bool true) .bool=true by first | rfl | decide | simp[WShape.has,WShape.arms,WShape.armsAll])
  (show (WTm.eq .res (.lit (.bool true))).value [] {args:=args,res:=some (.bool true),after:=args}=some (.bool (true==true)) from w_eq_bool (w_res rfl) w_lit) rfl
theorem attach_call {l:OpenLaw} {n:Nat} {q:Program} {loose:List Str} {XP:(Str→Option Value)→Heap→Prop} {YP:World→Heap→Prop} {d:DefRec}
 (hn:l.most=some n) (hdf:d.params.defaults=[])
 (call:∀ (w:World) (s₀ s₁:Shared) (mg mb:SOV) (fa:Addr) (o:Obj) (pm cd doc:Value) (a:Addr) (vs:List Value) (ns:List Int),
   Ground q loose [] XP w s₀ mg mb s₁.heap→YP w s₁.heap →
   s₁.heap.get? fa=some o→o.data=.func (docDef d.name d.params d.body d.scope pm cd doc)→s₁.heap.CodeRec cd d.name→mg d.name=some (.ref fa) →
   s₁.heap.get? a=some {cls:=.type "list",data:=.seq vs.toArray}→IntsAre vs ns→ns.length≤n→s₁.gens=#[] →
   codeAny (model l.prog w) callerA (.call (.ref fa) ⟨[.ref a],[]⟩) (fun r s'=>r=.ok (.ret (.bool true))∧OldK s₁.heap s'.heap∧s'.os=s₁.os∧AllBare s'.gens) s₁) :
 WalkO q loose XP YP l.row.toRowW d [] (fun f vs=>PySem.call f vs):=by
 intro w s₀ s₁ mg mb G Y fa o pm cd doc dV kV ho hd hcd hD hmg hg args vals as hpre hlay hrd hwl hlo;obtain rfl:dV=.none:=Dflts.none hD hdf;obtain rfl:kV=.none:=Dflts.noKw hD;obtain⟨a,vs,ns,rfl,rfl,hobj,hints,hlen⟩:=nF hn hpre hwl;refine enter_call (codeAny_mono (call w s₀ s₁ mg mb fa o pm cd doc a vs ns G Y ho (fd_plain hd) hcd hmg hobj hints hlen hg) fun r s' hq=>?_);obtain⟨rfl,h2,h3,h4⟩:=hq;exact⟨.inl ⟨.bool true,.bool true,[],rfl,fun _=>rfl,.bool true,nK l _,fun _=>⟨List.Pairwise.nil,fun _ hm=>(nomatch hm)⟩⟩,h2,h3,h4⟩
section
variable {prog:Program} {w:World} {A:Around} {E:VSP} {s:Shared} {K:Frag}
end
end Att
namespace L2
open PySem PySem.Spec PyProof.Rows
theorem nq:∀ {vs:List Value} {ns:List Int},IntsAre vs ns→aQ (ns.map V.int) vs:=by
 intro vs ns h
 induction h with
 | nil=>exact .nil
 | cons n t h ih=>exact .cons ⟨t,rfl⟩ ih
def wS (H:Hp):Prop:=∀ b,H b=none∨∃ o xs,H b=some (.frz o (.lst xs))
theorem ql {P:Program} {w:World} {K:Fg} {mg mb:SOV} {CX:CXT} {k:Nat} {fa a:Addr} {fd:FuncData} {x:Str} {sp:Sp} {s₁:Shared} {vs:List Value} {ns:List Int}
 (KX:K.In s₁.heap) (hns:s₁.heap.Ns mainGlobals mg) (hb:s₁.heap.Ns builtinsNs mb) (hbb:∀ x:Str,x≠"__name__"→mb x=bootBuiltins x) (hlim:s₁.heap.NoLimit) (hg:s₁.gens=#[])
 (ha:s₁.heap.get? a=some {cls:=.type "list",data:=.seq vs.toArray}) (hi:IntsAre vs ns) (hl:ns.length≤sizeLine) (hr:cU k callerA)
 (F:∀ base:Heap,K.In base→base.Ns mainGlobals mg→iM P w K mg base CX k fa fd [x] sp) (hbind:∀ (s:Shared) (u:Value),BindsTo s fd ⟨[u],[]⟩ [(x,u)])
 (hsp:∀ H:Hp,wS H→SqL K H a (ns.map V.int)→sp [.ref a] H (fun v _=>v=.bl true) fun _ _ _=>False)
 (hCX:∀ H e s',CX [] H s₁ (fun _ _ _=>False) e s'→False) :
 codeAny (model P w) callerA (.call (.ref fa) ⟨[.ref a],[]⟩) (fun r s'=>r=.ok (.ret (.bool true))∧OldK s₁.heap s'.heap∧s'.os=s₁.os∧AllBare s'.gens) s₁:=by
 have rv:=nq hi;have lenV:=hi.length;have core:∀ H:Hp,wS H→SqL K H a (ns.map V.int)→HOk P w H s₁.heap→(∀ b,H b≠none→b=a)→(H a≠none→K.lookup a=none) →
  codeAny (model P w) callerA (.call (.ref fa) ⟨[.ref a],[]⟩) (fun r s'=>r=.ok (.ret (.bool true))∧OldK s₁.heap s'.heap∧s'.os=s₁.os∧AllBare s'.gens) s₁:=by
  intro H hO hS hok hA hK;have base_of:∀ {b:Addr} {o:Obj},s₁.heap.get? b=some o→H b=none→(jz s₁.heap H).get? b=some o:=fun e n=>qq e n;have noA:∀ {b:Addr} {o:Obj} {es:Array DictEntry} {ep:Nat},s₁.heap.get? b=some o→o.data=.dict es ep→H b=none:=fun {b o es ep} e d=>by
   cases q:H b with
   | none=>rfl
   | some u =>
    have e':b=a:=hA b (by rw[q];simp);subst e';rw[ha] at e;cases e;have d':Data.seq vs.toArray _=Data.dict es ep:=d;cases d'
  have nsK:∀ {b:Addr} {m:SOV},s₁.heap.Ns b m→(jz s₁.heap H).Ns b m:=fun {b m} ⟨o,es,ep,e,d,r⟩=>⟨o,es,ep,base_of e (noA e d),d,r⟩;have hKb:K.In (jz s₁.heap H):=fun b o e=>base_of (KX b o e) (by
    cases q:H b with
    | none=>rfl
    | some u =>
      have e':b=a:=hA b (by rw[q];simp);subst e';rw[hK (by rw[q];simp)] at e;cases e)
  have hM:Mod K mg (jz s₁.heap H):=⟨hKb,nsK hns,⟨mb,nsK hb,hbb⟩,let ⟨mc,h1,h2⟩:=hlim;⟨mc,nsK h1,h2⟩⟩;have e0:tP P w K mg (jz s₁.heap H) callerA [] s₁ H:=⟨rfl,hM,fun b o e=>sG e,Nat.le_of_eq (o6 _ _),trivial,fun b hb=>absurd (show b∈([]:List Addr) from hb) (by simp),hok,.of_eq hg⟩;refine codeAny_mono ((F _ hKb (nsK hns)).run callerA [] s₁ H ⟨[.ref a],[]⟩ [.ref a] [.ref a] _ _ hr e0 (hbind s₁ (.ref a)) (.cons rfl .nil) (hsp H hO hS)) fun r s' h=>?_;cases r with
  | error e=>exact (hCX H e s' h).elim
  | ok fl =>
   cases fl with
   | next=>exact False.elim h
   | brk=>exact False.elim h
   | cont=>exact False.elim h
   | ret u =>
    obtain⟨v,H',os,bare,un,hok',r',q⟩:=h;have q':v=.bl true:=q;subst q';obtain rfl:u=Value.bool true:=r';refine⟨rfl,OldK.of_keep fun b o e=>?_,os,bare⟩;cases q:H b with
    | none=>exact un.keep b o e q (by intro z;exact absurd (show b∈([]:List Addr) from z) (by simp)) (by simp)
    | some u =>
     rcases hO b with z | ⟨ob,xs,z⟩
     · rw[q] at z;cases z
     · have z2:=un.frzs b ob _ z;obtain⟨e1,_⟩:=hok b _ z;obtain⟨e2,_⟩:=hok' b _ z2;rw[e] at e1;cases e1;exact e2
 cases hk:K.lookup a with
 | some o =>
  have e:=KX a o hk;rw[ha] at e;cases e;refine core (fun _=>none) (fun _=>.inl rfl) (.inr ⟨_,vs.toArray,_,hk,rfl,rfl,rfl,by rw[List.size_toArray,lenV];exact hl,by simpa using rv⟩) (fun b u z=>by have z':(none:Option HO)=some u:=z;cases z') (fun b z=>absurd rfl z) fun z=>absurd rfl z
 | none =>
  refine core (fun b=>if b=a then some (.frz {cls:=.type "list",data:=.seq vs.toArray} (.lst (ns.map V.int))) else none) (fun b=>?_) (.inl (.inr ⟨{cls:=.type "list",data:=.seq vs.toArray},if_pos rfl⟩)) (fun b u z=>?_) (fun b z=>?_) fun _=>hk
  · by_cases hb:b=a
    · exact .inr ⟨_,_,if_pos hb⟩
    · exact .inl (if_neg hb)
  · by_cases hb:b=a
    · have z':=(if_pos hb).symm.trans z;cases z';subst hb;exact⟨ha,by rw[lMp];exact hl,vs,_,rv,ha⟩
    · have z':=(if_neg hb).symm.trans z;cases z'
  · by_cases hb:b=a
    · exact hb
    · exact absurd (if_neg hb) z
abbrev KOf {K:Fg} {h:Heap} (_:K.In h):Fg:=K
theorem mh {l:PySem.W.OpenLaw} {n k:Nat} {q:Program} {loose:List Str} {XP:(Str→Option Value)→Heap→Prop} {YP:World→Heap→Prop} {d:DefRec} {K:Params→Fg} {CX:World→CXT} {sp:World→Sp} {x:Str}
 (hn:l.most=some n) (hn2:n≤sizeLine) (hdf:d.params.defaults=[]) (hr:cU k callerA)
 (hY:∀ (w:World) (h:Heap),YP w h→(K w.params).In h)
 (F:∀ (w:World) (mg:SOV) (fa:Addr) (h:Heap),(K w.params).In h→h.Ns mainGlobals mg→mg d.name=some (.ref fa) →
   ∃ fd:FuncData,(∀ (s:Shared) (u:Value),BindsTo s fd ⟨[u],[]⟩ [(x,u)]) ∧
     ∀ base:Heap,(K w.params).In base→base.Ns mainGlobals mg→iM l.prog w (K w.params) mg base (CX w) k fa fd [x] (sp w))
 (hsp:∀ (w:World) (H:Hp) (a:Addr) (ns:List Int),ns.length≤n→wS H→SqL (K w.params) H a (ns.map V.int)→sp w [.ref a] H (fun v _=>v=.bl true) fun _ _ _=>False)
 (hCX:∀ (w:World) (H:Hp) (s:Shared) (e:Value) (s':Shared),CX w [] H s (fun _ _ _=>False) e s'→False) :
 PySem.W.WalkO q loose XP YP l.row.toRowW d [] (fun f vs=>PySem.call f vs):=by
 refine Att.attach_call hn hdf fun w s₀ s₁ mg mb fa o pm cd doc a vs ns G Y ho hd hcd hmg hobj hints hlen hg=>?_;have KX:=hY w _ Y;obtain⟨fd,hb,hF⟩:=F w mg fa _ KX G.T.g hmg;exact ql KX G.T.g G.T.b G.T.builtins G.T.nolimit hg hobj hints (Nat.le_trans hlen hn2) hr hF hb (fun H hO hS=>hsp w H a ns hlen hO hS) fun H e s'=>hCX w H s₁ e s'
end L2
/- THE LAST THEOREM (shape;LID,My.* are yours):
   My.Adr: a structure of the addresses that your layer names (classes,functions);My.Txt K t: a structure (Prop) of the equations over K;
   My.txt_mk:{K} {implicit addresses ..} (e1:nsIn K mainGlobals "law"=some (some (.ref f))) (e2:K.lookup f=some ⟨oc,od,.func (fnOf "law" "law" params body scope dV kV doc pm an cdv ct),sl⟩) (e3:codeIn K cdv "law"=true) ..:∃ t,My.Txt K t
set_option maxRecDepth 100000 in
set_option maxHeartbeats 0 in
theorem PySem.Challenge.cw_LID_holds:PySem.Challenge.rw_LID.Holds:=by
 w_on;o_law;k_head;(case hw=>w_witness2)
 k_fill
 refine L2.mh (l:=PySem.Challenge.rw_LID) (n:=63) (k:=40) (x:="script") (CX:=fun w=>..) (sp:=fun _=>My.sp_law) rfl (by decide) rfl ⟨rfl,by decide,by decide⟩ (fun w h Y=>PySem.W.kIn_of Y) ?F ?S ?C
 case F =>
  intro w mg fa h KX G hmg;have T:∃ t,My.Txt (L2.KOf KX) t:=by
   dsimp only[L2.KOf]                          -- K must stand as «<heap const> w.params» for k_is;refine' My.txt_mk ?e1 ?e2 ?e3 ..
   (case e1=>PySem.W.k_is)                    -- in the order: a name -> its address -> its object -> its parts
   (case e2=>PySem.W.k_is)
   ..
  obtain⟨t,T⟩:=T;have e0:=hmg.symm.trans (PySem.W.mg_of KX G T.law);cases e0                                       -- fa is the law's own address;exact⟨_,fun s u=>.of_eq rfl,fun base kb nb=>My.law_fn T kb nb⟩     -- if «.of_eq rfl» comes too early: refine' ⟨_,?b,fun base kb nb=>My.law_fn T kb nb⟩;exact fun s u=>.of_eq rfl
 case S=>exact fun w H a ns hl hO hS=>..
 case C=>exact ..
(the tactic k_is has no namespace: write k_is) -/
namespace L2
open PySem PySem.Spec PyProof.Rows
abbrev CX0:CXT:=fun _ _ _ _ _ _=>False
abbrev E0:XK:=fun _ _ _=>False
theorem yQ {X:Cx}:lY CX0 X E0:=fun _ _ _ _ _ _ _ h=>h.elim
structure Fun (K:Fg) (x qual:Str) (st:Stmt) (f:Addr) (fd:FuncData):Prop where
  ex:∃ (oc:Value) (od:Option Addr) (kV doc pm:Value) (an:Option Addr) (cdv ct:Value) (osl:Array (Option Value)),
    fd=PySem.W.fnOf x qual (cG st) (aW st) (a7 st) .none kV doc pm an cdv ct∧K.lookup f=some ⟨oc,od,.func fd,osl⟩∧PySem.W.codeIn K cdv qual=true
  kp:PySem.W.keepIn K (.ref f)=true
section
variable {P:Program} {w:World} {K:Fg} {mg:SOV} {base:Heap}
theorem Fun.ok {x qual:Str} {st:Stmt} {f:Addr} {fd:FuncData} {N ps:List Str} {k:Nat} {sp:Sp} (F:Fun K x qual st f fd) (S:aB N ps (a7 st)) (len:∀ vs H Q E,sp vs H Q E→vs.length=ps.length)
 (hbody:∀ (cdv:Value) (A:Around) (outer:List Env) (s:Shared) (H:Hp) (vs:List V) (Q:VK) (E:XK),cU k (A.deeper (envOfC qual (a7 st) s.heap.objs.size f cdv))→sp vs H Q E →
   ∃ t,PSs (cJ CX0 P w K mg base N qual (a7 st) f cdv A outer s H E).nox (aW st) t∧t {nx:=fun _ H'=>Q .non H',rt:=Q} (eQ N vs) H):iM P w K mg base CX0 (k+1) f fd ps sp:=by
 obtain⟨oc,od,kV,doc,pm,an,cdv,ct,osl,rfl,lk,hcd⟩:=F.ex;refine AB lk hcd S len fun A outer s H vs Q E hr hsp=>?_;obtain⟨t,h,q⟩:=hbody cdv A outer s H vs Q E hr hsp;exact⟨t,h.nox,q⟩
theorem Fun.binds {x qual:Str} {st:Stmt} {f:Addr} {fd:FuncData} {ps:List Str} (F:Fun K x qual st f fd)
 (h:∀ (kV doc pm:Value) (an:Option Addr) (cdv ct:Value) (us:List Value),us.length=ps.length→bindArgs (PySem.W.fnOf x qual (cG st) (aW st) (a7 st) .none kV doc pm an cdv ct) ⟨us,[]⟩=pure (ps.zip us)):jg K fd ps []:=by
 obtain⟨oc,od,kV,doc,pm,an,cdv,ct,osl,rfl,lk,hcd⟩:=F.ex;exact .all (h kV doc pm an cdv ct)
theorem qz {x qual:Str} {st:Stmt} {f:Addr} {oc:Value} {od an:Option Addr} {osl:Array (Option Value)} {kV doc pm cdv ct:Value} (l:K.lookup f=some ⟨oc,od,.func (PySem.W.fnOf x qual (cG st) (aW st) (a7 st) .none kV doc pm an cdv ct),osl⟩)
 (c:PySem.W.codeIn K cdv qual=true) (k:PySem.W.keepIn K (.ref f)=true):Fun K x qual st f (PySem.W.fnOf x qual (cG st) (aW st) (a7 st) .none kV doc pm an cdv ct):=⟨⟨oc,od,kV,doc,pm,an,cdv,ct,osl,rfl,l,c⟩,k⟩
end
theorem bX {A:Around} {k:Nat} (hr:cU k A):A.units+1<cLine:=Nat.lt_of_le_of_lt (Nat.add_le_add_left (by decide:1≤64) _) hr.units
section
variable {X:Cx}
theorem pv (i:Nat) {x:Str} {pos:Pos} (hN:X.N[i]?=some x:=by rfl) (hv:Vis X.env.scope x:=by first | exact Or.inl rfl | exact Or.inr (Or.inl rfl) | exact Or.inr (Or.inr rfl)) (hd:(x==("__debug__":Str))=false:=by decide)
 (hcd:(x==("__classdict__":Str))=false:=by decide):PE X (.Name x pos) (cq i):=vL hN hv hd hcd
end
theorem aZ {A B:Prop} (h:B):if false=true then A else B:=by
 rw[if_neg Bool.false_ne_true];exact h
theorem bx {A B:Prop} (h:A):if true=true then A else B:=by
 rw[if_pos rfl];exact h
def ak (H H':Hp):Prop:=∀ b o,H b=some o→H' b=some o
theorem ak.refl (H:Hp):ak H H:=fun _ _ h=>h
theorem ak.trans {H H1 H2:Hp} (a:ak H H1) (b:ak H1 H2):ak H H2:=fun c o h=>b c o (a c o h)
theorem ak.free {H H':Hp} (e:ak H H') {l:Addr} (h:H' l=Option.none):H l=Option.none:=by
 cases q:H l with
 | none=>rfl
 | some o =>
  rw[e l o q] at h;cases h
theorem ak.seq {K:Fg} {H H':Hp} {a:Addr} {xs:List V} (e:ak H H') (h:SqL K H a xs):SqL K H' a xs:=by
 rcases h with (h | ⟨o,h⟩) | h
 · exact .inl (.inl (e _ _ h))
 · exact .inl (.inr ⟨o,e _ _ h⟩)
 · exact .inr h
end L2
theorem eG {P:Prop} (h:∀ G:Prop,(P→G)→G):P:=h P id
set_option maxHeartbeats 4000000
namespace L2
open PySem PySem.Spec PyProof.Rows
def blk (X:Cx) (sc:Scope) (cl:List (Str×Addr)) (N':List Str) (fp:List Addr) (pins:AOs) (s:Shared) (H:Hp):Cx where
  prog:=X.prog
  w:=X.w
  K:=X.K
  mg:=X.mg
  base:=X.base
  A:=X.A
  N:=N'
  s₀:=s
  H₀:=H
  env:=compEnvC sc cl s.heap.objs.size X.env
  outer:=X.stack
  stack:=X.stack
  ex:=fp
  fn:=fun _=>false
  calm:=X.calm
  pn:=X.pn++pins
  xe:=fun _ _=>False
def cN (cells:List (Str×Addr)):List (Str×NameKind)→List (Str×Addr)→List (Str×Addr)
  | [],acc=>acc
  | (n,k)::r,acc=>cN cells r (if k==.free then (match cells.lookup n with | some c=>(n,c)::acc | none=>acc) else acc)
theorem kS (cells:List (Str×Addr)):∀ (ns:List (Str×NameKind)) (acc:List (Str×Addr)),(∀ x c,(x,c)∈acc→cells.lookup x=some c)→∀ x c,(x,c)∈cN cells ns acc→cells.lookup x=some c
 | [],acc,h,x,c,m=>h x c m
 | (n,k)::r,acc,h,x,c,m=>by
  unfold cN at m;refine kS cells r _ (fun y d q=>?_) x c m;split at q
  · split at q
    · rename_i c' e
      rcases List.mem_cons.mp q with z | z
      · cases z;exact e
      · exact h y d z
    · exact h y d q
  · exact h y d q
theorem kU (cells:List (Str×Addr)):∀ (ns:List (Str×NameKind)) (acc:List (Str×Addr)) (x:Str) (c:Addr),(x,c)∈acc→∃ d,(x,d)∈cN cells ns acc
 | [],acc,x,c,m=>⟨c,m⟩
 | (n,k)::r,acc,x,c,m=>by
  unfold cN;refine kU cells r _ x c ?_;split
  · split
    · exact mCM _ m
    · exact m
  · exact m
theorem iw (cells:List (Str×Addr)):∀ (ns:List (Str×NameKind)) (acc:List (Str×Addr)) (x:Str) (c:Addr),(x,NameKind.free)∈ns→cells.lookup x=some c→∃ d,(x,d)∈cN cells ns acc
 | [],acc,x,c,m,e=>by cases m
 | (n,k)::r,acc,x,c,m,e=>by
  rcases List.mem_cons.mp m with z | z
  · cases z;unfold cN;refine kU cells r _ n c ?_;rw[if_pos (by decide),e];exact mCS
  · unfold cN;exact iw cells r _ x c z e
theorem f9:∀ {l:List (Str×Addr)} {x:Str} {c:Addr},(x,c)∈l→∃ d,l.lookup x=some d
 | (y,d)::r,x,c,m=>by
  by_cases h:x=y
  · subst h;exact⟨d,by simp[List.lookup_cons]⟩
  · rcases List.mem_cons.mp m with z | z
    · cases z;exact absurd rfl h
    · obtain⟨d',e⟩:=f9 z;refine⟨d',?_⟩;have:(x==y)=false:=by simpa using h
      simp[List.lookup_cons,this,e]
theorem gs (env:Env):∀ (ns:List (Str×NameKind)) (acc:List (Str×Addr)),(∀ y∈ns,y.2=.free→∃ c,env.cells.lookup y.1=some c) →
 (forIn (m:=Sem) ns acc fun (x:Str×NameKind) r=>if (x.2==.free)=true then (do let a ← cellOf env x.1;pure (ForInStep.yield ((x.1,a)::r))) else pure (ForInStep.yield r))=pure (cN env.cells ns acc)
 | [],acc,_=>rfl
 | (n,k)::r,acc,h=>by
  rw[List.forIn_cons];have ih:=fun acc=>gs env r acc fun y hy=>h y (mCM _ hy);unfold cN;by_cases hk:k=.free
  · subst hk;obtain⟨c,e⟩:=h (n,.free) mCS rfl;have e':env.cells.lookup n=some c:=e;simp only[cellOf,e',beq_self_eq_true,if_true,pure_bind];exact ih _
  · have hb:(k==NameKind.free)=false:=by simpa using hk
    simp only[hb,Bool.false_eq_true,if_false,pure_bind];exact ih _
theorem lQ {env:Env} {sc:Scope} (h:∀ y∈sc.names,y.2=.free→∃ c,env.cells.lookup y.1=some c):closureFor sc env=pure (cN env.cells sc.names []):=by
 have q:=gs env sc.names [] h;unfold closureFor
 first
  | (rw[show (forIn (m:=Sem) sc.names ([]:List (Str×Addr)) _)=_ from q];rfl)
  | (simp only[bind_pure];exact q)
  | exact q
section
variable {X:Cx} {pins:AOs} {σ:St} {H:Hp} {s:Shared}
theorem fj {sc:Scope} {x:Str} {c:Addr} (e:(cN X.env.cells sc.names []).lookup x=some c):X.env.cells.lookup x=some c :=
 kS _ _ _ (fun _ _ m=>by cases m) x c (PySem.mem_of_lookup e)
def fT (k:Nat) (outs:List (Nat×Str)) (σ:St):St:=List.replicate k none++outs.map fun p=>(σ[p.1]?).getD none
def fz (own:List Str) (outs:List (Nat×Str)):List Str:=own++outs.map (·.2)
structure aI (X:Cx) (sc:Scope) (own:List Str) (outs:List (Nat×Str)):Prop where
  kind:sc.kind=.function
  nocell:∀ y∈sc.names,y.2≠.cell
  loc:∀ y∈sc.names,y.2=.local→sc.names.lookup y.1=some .local
  fr:∀ y∈sc.names,y.2=.free→X.env.kindOf y.1=some .cell∨X.env.kindOf y.1=some .free
  outNo:∀ p∈outs,(relabel sc X.env).names.lookup p.2≠some .local
  outN:∀ p∈outs,X.N[p.1]?=some p.2∧(X.env.scope.names.lookup p.2=some .cell∨X.env.scope.names.lookup p.2=some .free)
theorem fc {α:Type}:∀ {l:List (Str×α)} {x:Str} {k:α},l.lookup x=some k→(x,k)∈l
 | (y,d)::r,x,k,e=>by
  by_cases h:x=y
  · subst h;simp[List.lookup_cons] at e;subst e;exact mCS
  · have:(x==y)=false:=by simpa using h
    simp[List.lookup_cons,this] at e;exact mCM _ (fc e)
 | [],x,k,e=>by simp at e
theorem de {sc:Scope} {env:Env} {x:Str} {k:NameKind} (nc:∀ y∈sc.names,y.2≠.cell) (hk:k=.cell∨k=.free) (e:(relabel sc env).names.lookup x=some k):(x,NameKind.free)∈sc.names:=by
 have m:=fc e;unfold relabel at m;obtain⟨⟨n,k'⟩,m1,m2⟩:=List.mem_map.mp m;by_cases c:(k'==NameKind.free&&env.scope.kind==.function&&env.kindOf n==some .cell)=true
 · dsimp only at m2;rw[if_pos c] at m2;cases m2;have:k'=.free:=by
    have:=(Bool.and_eq_true_iff.mp (Bool.and_eq_true_iff.mp c).1).1
    simpa using this
   subst this;exact m1
 · dsimp only at m2;rw[if_neg c] at m2;cases m2
   rcases hk with z | z
   · subst z;exact absurd rfl (nc _ m1)
   · subst z;exact m1
theorem sT {sc:Scope} {own:List Str} {outs:List (Nat×Str)} {fp:List Addr} {h':Heap} {t':Nat} (I:Inv X pins σ H s) (S:aI X sc own outs) (hf:∀ b∈fp,iy X pins H b) (hfo:∀ b∈fp,b<s.heap.objs.size)
 (hn:h'.Ns s.heap.objs.size fun _=>none) (hk:∀ b o,s.heap.get? b=some o→h'.get? b=some o) :
 Inv (blk X sc (cN X.env.cells sc.names []) (fz own outs) fp pins s H) [] (fT own.length outs σ) H {s with heap:=h',toks:=t'}:=by
 have hcells:∀ y∈sc.names,y.2=.free→∃ c,X.env.cells.lookup y.1=some c:=fun y hy e=>I.ok.has y.1 (S.fr y hy e);have ltL:∀ b,b<s.heap.objs.size→b≠s.heap.objs.size:=fun b hb=>Nat.ne_of_lt hb;refine⟨⟨I.mod,?_,I.ok.glob,I.ok.blt,Nat.le_refl _,fun x y c e1 e2=>I.ok.inj x y c (fj e1) (fj e2),fun x hx=>?_,fun x c z _=>absurd z Bool.false_ne_true,I.ok.hd,I.ok.frames,.inl rfl,fun b hb=>⟨ltL b (hfo b hb),fun x c e=>(hf b hb).2.2.2.2.1 x c (fj e)⟩,I.bs,
     Nat.le_trans I.ok.bsz I.sz,fun b o e hb=>?_,fun b hb z=>?_,I.stack,I.stkFree⟩,rfl,I.bare,Un.kept hk,⟨_,hn,fun i x v e1 e2 e3=>?_⟩,fun x c e=>?_,I.hok.fresh (Nat.le_refl _),fun x c e=>I.freeC x c (fj e),fun p hp=>?_,I.hok.kept hk,?_⟩
 · exact S.kind
 · have hm:(x,NameKind.free)∈sc.names:=by
    rcases hx with e | e
    · exact de S.nocell (.inl rfl) e
    · exact de S.nocell (.inr rfl) e
   obtain⟨c,e⟩:=hcells (x,.free) hm rfl;obtain⟨d,m⟩:=iw X.env.cells sc.names [] x c hm e;exact f9 m
 · rcases (hf b hb).2.2.2.1 with z | z
   · exact I.ok.noex b o e z
   · exact absurd (Nat.lt_of_lt_of_le (Heap.lt_size e) (Nat.le_trans I.ok.bsz z)) (Nat.lt_irrefl _)
 · rcases List.mem_cons.mp (I.stkSub b z) with e | e
   · exact (hf b hb).2.1 e
   · exact (hf b hb).2.2.1 e
 · -- a name that is seen
   have e2':i<(fT own.length outs σ).length:=(gES.mp e2).1;by_cases hi:i<own.length
   · unfold fT at e2;rw[List.getElem?_append_left (by simpa using hi),List.getElem?_replicate] at e2;split at e2 <;> cases e2
   · have hi':own.length≤i:=Nat.not_lt.mp hi;unfold fT at e2;rw[List.getElem?_append_right (by simpa using hi'),List.length_replicate,gEM] at e2;have e1':(fz own outs)[i]?=some x:=e1;unfold fz at e1';rw[List.getElem?_append_right hi',gEM] at e1';cases q:outs[i-own.length]? with
     | none=>rw[q] at e1';cases e1'
     | some p =>
      rw[q] at e1' e2;have ex:p.2=x:=Option.some.inj e1';have ev:(σ[p.1]?).getD none=some v:=Option.some.inj e2;have hσ:σ[p.1]?=some (some v):=by
       cases z:σ[p.1]? with
       | none=>rw[z] at ev;cases ev
       | some o=>rw[z] at ev;exact congrArg some ev
      obtain⟨hN,hkd⟩:=S.outN p (mGE q);rw[ex] at hN hkd;obtain⟨m,_,hl⟩:=I.loc;obtain⟨u,r,l⟩:=hl p.1 x v hN hσ (hkd.elim (fun z=>.inr (.inl z)) fun z=>.inr (.inr z));refine⟨u,r,?_⟩
      rcases l with ⟨k,_⟩ | ⟨_,c,ec,z⟩
      · have k':X.env.scope.names.lookup x=some .local:=k
        rcases hkd with y | y <;> (rw[k'] at y;cases y)
      · have hloc:(relabel sc X.env).names.lookup x=some .local∨(relabel sc X.env).names.lookup x=some .cell∨(relabel sc X.env).names.lookup x=some .free:=e3;have zc:h'.IsCell c (some u):=by
         obtain⟨o,ho,hd⟩:=z;exact⟨o,hk c o ho,hd⟩
        rcases hloc with y | y
        · -- the block binds the name itself: then the slot is not the outer one's;excluded by the caller
          exact absurd y (fun y=>S.outNo p (mGE q) (by rw[ex];exact y))
        · have hm:(x,NameKind.free)∈sc.names:=by
           rcases y with e | e
           · exact de S.nocell (.inl rfl) e
           · exact de S.nocell (.inr rfl) e
          obtain⟨d,md⟩:=iw X.env.cells sc.names [] x c hm ec;obtain⟨d',ed⟩:=f9 md;have e0:=fj (X:=X) (sc:=sc) ed;rw[ec] at e0;have e0':c=d':=Option.some.inj e0;subst e0';exact .inr ⟨y,c,ed,zc⟩
 · obtain⟨v,o,ho,hd⟩:=I.cell x c (fj e);exact⟨v,o,hk c o ho,hd⟩
 · have hp':p∈X.pn++pins:=by
    rcases mAp.mp hp with z | z
    · exact z
    · cases z
   obtain⟨e,n,ne,nf,d⟩:=I.pin p hp';refine⟨hk p.1 p.2 e,n,ltL p.1 (Heap.lt_size e),fun z=>?_,d⟩
   rcases List.mem_cons.mp (I.stkSub p.1 z) with y | y
   · exact ne y
   · exact nf y
 · show (fT own.length outs σ).length=(fz own outs).length;unfold fT fz;simp
end
abbrev qp (ifs:List Expr) (env:Env):Sem Bool :=
  forIn ifs true fun c r=>if r=true then do let ok ← isTrue c env (eval c env);pure (ForInStep.yield ok) else pure (ForInStep.yield r)
def rj (X:Cx) (ifs:List Expr) (t:TT):Prop :=
  ∀ (pins:AOs) (s:Shared) (σ:St) (H:Hp) (Q:Bool→Hp→Prop),Inv X pins σ H s→t σ H Q→wpAny (model X.prog X.w) X.A (qp ifs X.env) (TP X pins σ Q) X.xe s
def nC:TT:=fun _ H Q=>Q true H
theorem bL {X:Cx}:rj X [] nC:=fun pins s σ H Q I h=>wpAny_tests_nil ⟨H,I,h⟩
theorem cx {X:Cx} {c:Expr} {t:TT} (hc:PT X c t):rj X [c] t:=fun pins s σ H Q I h=>wpAny_tests_one (hc pins s σ H Q I h)
theorem qk {prog:Program} {w:World} {A:Around} {R:Result→Shared→Prop} {s:Shared} {elt tg iter:Expr} {ifs:List Expr} {sc:Scope} {pos:Pos} {it acc:Value} {env:Env} (J:Nat→Shared→Prop)
 (turn:∀ n s,J n s→wpAny (model prog w) A (pyNext it) (fun r s1=>(r=none∧R (.ok .next) s1)∨∃ v,r=some v ∧
   wpAny (model prog w) A (letOwnedTupleGo tg it v) (fun _ s2=>wpAny (model prog w) A (assign tg env v) (fun _ s3=>wpAny (model prog w) A (qp ifs env) (fun ok s4 =>
     (ok=false∧∃ m,m<n∧J m s4)∨(ok=true∧wpAny (model prog w) A (eval elt env) (fun x s5=>wpAny (model prog w) A (call (.builtin "list.append") [acc,x]) (fun _ s6=>∃ m,m<n∧J m s6) (fun _ _=>False) s5) (fun _ _=>False) s4))
     (fun _ _=>False) s3) (fun _ _=>False) s2) (fun _ _=>False) s1) (fun _ _=>False) s)
 (n:Nat) (h:J n s):codeAny (model prog w) A (.compLoop (.ListComp elt [⟨tg,iter,ifs,0⟩] sc pos) 0 it acc env) R s:=by
 refine codeAny_loop rfl J (fun n s hJ=>?_) n h;show wpAny _ _ (Sem.onRaise (compTurn (.ListComp elt [⟨tg,iter,ifs,0⟩] sc pos) 0 it acc env) (fun x=>do noteFrame x env;theTreesLotGoes x)) _ _ s;refine wpAny_noted ?_;rw[compTurn_list];refine wB (wpAny_standAt (wB (wpAny_mono (turn n s hJ) (fun r s1 h1=>?_) fun _ _ f=>f.elim)))
 rcases h1 with ⟨hr,h1⟩ | ⟨v,hr,h1⟩
 · subst hr;exact wP h1
 · subst hr;refine wB (wpAny_mono h1 (fun _ s2 h2=>?_) fun _ _ f=>f.elim);refine wB (wpAny_mono h2 (fun _ s3 h3=>?_) fun _ _ f=>f.elim);refine wB (wpAny_mono h3 (fun ok s4 h4=>?_) fun _ _ f=>f.elim)
   rcases h4 with ⟨e,h4⟩ | ⟨e,h4⟩
   · subst e;exact wP ⟨rfl,h4⟩
   · subst e;refine wB (wB (wpAny_mono h4 (fun x s5 h5=>?_) fun _ _ f=>f.elim));exact wB (wpAny_mono h5 (fun _ s6 h6=>wP (wP ⟨rfl,h6⟩)) fun _ _ f=>f.elim)
def tLC (wi:TI) (k:Nat) (outs:List (Nat×Str)) (g:TG) (tc:TT) (te:TE):TE:=fun σ H Q=>wi σ H fun J H1=>∀ D,H1 D=none →
  ∃ W:Nat→Nat→St→Hp→Prop,(∃ m,W 0 m (fT k outs σ) (upd H1 D (.lst [])))∧∀ i m σ' H',W i m σ' H' →
    (J.stop i H'∧Q (.ref D) H')∨(J.go i H'∧∃ N:St→Hp→Prop,(∀ σ2 H2,N σ2 H2→∃ m',m'<m∧W (i+1) m' σ2 H2)∧∀ x H2,J.yld i H' x H2→g x σ' H2 fun σ3 H3=>tc σ3 H3 fun b H4 =>
      if b=true then te σ3 H4 fun v H5=>∃ ys,H5 D=some (.lst ys)∧ys.length<sizeLine∧N σ3 (upd H5 D (.lst (ys++[v]))) else N σ3 H4)
set_option maxHeartbeats 8000000 in
theorem mH {X:Cx} {elt tg iter:Expr} {ifs:List Expr} {sc:Scope} {pos cpos:Pos} {wi:TI} {g:TG} {tc:TT} {te:TE} {own:List Str} {outs:List (Nat×Str)} {use:Option (Value→Sem Unit)} {PQ:VSP} {pins:AOs} {s:Shared} {σ:St} {H:Hp} {Q:VK} (hc:X.calm=true) (S:aI X sc own outs) (hi:PI X tg iter wi)
 (hb:∀ (fp:List Addr) (pins:AOs) (s:Shared) (H:Hp),PG (blk X sc (cN X.env.cells sc.names []) (fz own outs) fp pins s H) tg g ∧
   rj (blk X sc (cN X.env.cells sc.names []) (fz own outs) fp pins s H) ifs tc∧PE (blk X sc (cN X.env.cells sc.names []) (fz own outs) fp pins s H) elt te)
 (hs:∀ x,foldedSetIterable iter X.env x=pure x) (I:Inv X pins σ H s) (h:tLC wi own.length outs g tc te σ H Q)
 (fin:∀ (D c:Addr) (m6:SOV) (H5:Hp) (s6:Shared),Inv X pins σ H5 s6→s6.heap.Ns c m6→H5 c=none→X.env.locals≠c→X.s₀.heap.objs.size≤c→(∀ x c',X.env.cells.lookup x=some c'→c'≠c)→(∀ p∈X.pn++pins,p.1≠c)→Q (.ref D) H5 →
   compPost (model X.prog X.w) X.A X.xe use PQ (.ref D) c (.ok .next) s6) :
 wpAny (model X.prog X.w) X.A (comprehension (.ListComp elt [⟨tg,iter,ifs,0⟩] sc pos) sc X.env cpos (newList []) false (eval iter X.env) use) PQ X.xe s:=by
 have hcl:closureFor sc X.env=pure (cN X.env.cells sc.names []):=lQ fun y hy e=>I.ok.has y.1 (S.fr y hy e);refine wpAny_comprehension_free (use:=use) rfl hs hcl S.kind S.loc (thn (hi pins s σ H _ I h) fun v s1 h1=>thn h1 fun itv s2 h2=>?_);obtain⟨it,fp,tn,J,H2,e,I2,T,st2,f2,h2⟩:=h2;subst e;refine wpAny_newObj_type ?_;generalize hD:s2.heap.objs.size=D;have fr:H2 D=none:=by rw[← hD];exact I2.fresh
 obtain⟨W,⟨m0,w0⟩,turn⟩:=h2 D fr;have I3:Inv X pins σ (upd H2 D (.lst [])) {s2 with heap:=s2.heap.push {cls:=.type "list",data:=.seq ([]:List Value).toArray}}:=by
  have q:=I2.lnew (t':=s2.toks) (ys:=[]) (its:=[]) .nil (Nat.zero_le _);rw[hD] at q;exact q
 have hfp:∀ b∈fp,b<s2.heap.objs.size:=fun b hb=>by
  obtain⟨o,e,_⟩:=T.obj _ _ st2 b hb;exact Heap.lt_size e
 have f3:∀ b∈fp,iy X pins (upd H2 D (.lst [])) b:=fun b hb=>⟨by rw[a9 (by rw[← hD];exact Nat.ne_of_lt (hfp b hb))];exact (f2 b hb).1,(f2 b hb).2⟩;generalize hS:({s2 with heap:=s2.heap.push {cls:=.type "list",data:=.seq ([]:List Value).toArray}}:Shared)=s3 at I3;have k3:∀ b o,s2.heap.get? b=some o→s3.heap.get? b=some o:=fun b o e=>by rw[← hS];exact hpS _ e
 have z3:s2.heap.objs.size≤s3.heap.objs.size:=by rw[← hS];show _≤(s2.heap.push _).objs.size;rw[Heap.size_push];exact Nat.le_succ _
 have st3:tn 0 s3.heap:=T.keep _ _ _ st2 fun b _ o e=>k3 b o e;refine wpAny_newFunctionEnv S.nocell (fun y hy=>by cases hy) (fun h4 hn4 sb4=>?_) S.kind;have k4:∀ b o,s3.heap.get? b=some o→h4.get? b=some o:=fun b o e=>sb4.extBut b o (Nat.ne_of_lt (Heap.lt_size e)) (hpS _ e);have hn4':h4.Ns s3.heap.objs.size fun _=>none:=by
  have q:=hn4;simp only[List.reverse_nil,List.lookup_nil] at q;exact q
 have I4:=sT (t':=s3.toks+([]:List (Str×Value)).length) I3 S f3 (fun b hb=>Nat.lt_of_lt_of_le (hfp b hb) z3) hn4' k4;have st4:tn 0 h4:=T.keep _ _ _ st3 fun b _ o e=>k4 b o e;obtain⟨hg,hif,he⟩:=hb fp pins s3 (upd H2 D (.lst []));generalize hY:blk X sc (cN X.env.cells sc.names []) (fz own outs) fp pins s3 (upd H2 D (.lst []))=Y at I4 hg hif he;have yenv:Y.env=compEnvC sc (cN X.env.cells sc.names []) s3.heap.objs.size X.env:=by rw[← hY];rfl
 have statY:∀ {H':Hp},(∀ b∈fp,H' b=none)→∀ b∈fp,iy Y [] H' b:=fun {H'} hn b hb=>by
  subst hY;obtain⟨_,a1,a2,a3,a4,a5⟩:=f3 b hb;refine⟨hn b hb,Nat.ne_of_lt (Nat.lt_of_lt_of_le (hfp b hb) z3),fun z=>?_,.inl hb,fun x c e=>a4 x c (fj e),fun p hp=>?_⟩
  · rcases List.mem_cons.mp (I3.stkSub b z) with y | y
    · exact a1 y
    · exact a2 y
  · rcases mAp.mp hp with z | z
    · exact a5 p z
    · cases z
 have loop:codeAny (model X.prog X.w) X.A (.compLoop (.ListComp elt [⟨tg,iter,ifs,0⟩] sc pos) 0 (.ref it) (.ref D) Y.env) (compPost (model X.prog X.w) X.A X.xe use PQ (.ref D) s3.heap.objs.size)
  {s3 with heap:=h4,toks:=s3.toks+([]:List (Str×Value)).length}:=by
  have hP:Y.prog=X.prog:=by rw[← hY];rfl
  have hw:Y.w=X.w:=by rw[← hY];rfl
  have hA:Y.A=X.A:=by rw[← hY];rfl
  have hK:Y.K=X.K:=by rw[← hY];rfl
  have hxe:Y.xe=fun _ _=>False:=by rw[← hY];rfl
  have hcm:Y.calm=true:=by rw[← hY];exact hc
  rw[← hP,← hw,← hA];rw[← hP,← hw,← hK] at T;refine qk (fun n s'=>∃ i σ' H',Inv Y [] σ' H' s'∧tn i s'.heap∧(∀ b∈fp,H' b=none)∧W i n σ' H') ?_ m0 ⟨0,_,_,I4,st4,fun b hb=>(f3 b hb).1,w0⟩;rintro n s5 ⟨i,σ5,H5,I5,st5,fr5,w5⟩
  rcases turn i n σ5 H5 w5 with ⟨stop,q⟩ | ⟨go,N,hN,step⟩
  · refine thn (T.done Y rfl rfl rfl hcm i [] s5 σ5 H5 _ I5 (statY fr5) st5 stop) fun r s6 zz97=>?_;obtain⟨hr,I6⟩:=zz97;refine .inl ⟨hr,?_⟩;obtain⟨m6,hn6,_⟩:=I6.loc;have yl:Y.env.locals=s3.heap.objs.size:=by rw[yenv];rfl
    have u6:Un (frs X.stack) fp (upd H2 D (.lst [])) H5 s3.heap s6.heap:=by
     have q:=I6.base;subst hY;exact q
    have I7:Inv X pins σ H5 s6:=by
     refine I3.call' (s':=s6) (ch:=fp) ?_ u6 ?_ I6.bare fun b hb=>?_
     · have q:=I6.os;subst hY;exact q
     · intro a o e;have q:=I6.hok a o e;subst hY;exact q
     · obtain⟨_,a1,a2,a3,a4,a5⟩:=f3 b hb;exact⟨a3,a1,a4,a5⟩
    rw[hP,hw,hA];refine fin D s3.heap.objs.size m6 H5 s6 I7 (by rw[← yl];exact hn6) (by rw[← yl];exact I6.free) (Nat.ne_of_lt I3.lt) I3.sz (fun x c e=>?_) (fun p hp=>Nat.ne_of_lt (Heap.lt_size (I3.pin p hp).1)) q;obtain⟨v,o,z,_⟩:=I3.cell x c e;exact Nat.ne_of_lt (Heap.lt_size z)
  · refine thn (T.item Y rfl rfl rfl hcm i [] s5 σ5 H5 _ I5 (statY fr5) st5 go) fun r s6 zz98=>?_;obtain⟨u,hr,h6⟩:=zz98;refine .inr ⟨u,hr,?_⟩;refine thn h6 fun _ s7 zz99=>?_;obtain⟨x,H7,I7,r7,y7,st7,fr7⟩:=zz99;have I7':=I7.pinned (statY fr7) (T.obj _ _ st7);have pinsOk:∀ {σ8:St} {H8:Hp} {s8:Shared},Inv Y ([]++ia fp s7.heap) σ8 H8 s8→N σ8 H8→∃ m,m<n∧∃ i σ' H',Inv Y [] σ' H' s8∧tn i s8.heap∧(∀ b∈fp,H' b=none)∧W i m σ' H':=fun {σ8 H8 s8} I8 n8=>by
     obtain⟨m',hm,w8⟩:=hN σ8 H8 n8;refine⟨m',hm,i+1,σ8,H8,I8.unpinned,T.keep _ _ _ st7 fun b hb o e=>(I8.pin (b,o) (List.mem_append_right _ (List.mem_append_right _ (dE hb e)))).1,fun b hb=>?_,w8⟩;obtain⟨o,e,d⟩:=T.obj _ _ st7 b hb;exact (I8.pin (b,o) (List.mem_append_right _ (List.mem_append_right _ (dE hb e)))).2.1
    have toF:∀ {α:Type} {t:Sem α} {Q':α→Shared→Prop} {s':Shared},wpAny (model Y.prog Y.w) Y.A t Q' Y.xe s'→wpAny (model Y.prog Y.w) Y.A t Q' (fun _ _=>False) s':=fun {α t Q' s'} z=>wpAny_mono z (fun _ _ a=>a) fun _ _ a=>by rw[hxe] at a;exact a
    refine toF (thn (hg _ s7 σ5 H7 x u _ I7' r7 (step x H7 y7)) fun _ s8 zz100=>?_);obtain⟨σ8,H8,I8,q8⟩:=zz100;refine toF (thn (hif _ s8 σ8 H8 _ I8 q8) fun ok s9 zz101=>?_);obtain⟨H9,I9,q9⟩:=zz101;cases ok with
    | false =>
     rw[if_neg Bool.false_ne_true] at q9;exact .inl ⟨rfl,pinsOk I9 q9⟩
    | true =>
     rw[if_pos rfl] at q9;refine .inr ⟨rfl,toF (thn (he _ s9 σ8 H9 _ I9 q9) fun y s10 zz102=>?_)⟩;obtain⟨v,H10,I10,r10,ys,hy,hz,n10⟩:=zz102;have ap:=iX (X:=Y) _ s10 σ8 H10 (.ref D) [v] (.ref D) [y] (fun _ H'=>N σ8 H') I10 rfl (.cons r10 .nil) ⟨D,ys,v,rfl,rfl,hy,hz,n10⟩;refine toF (thn ap fun _ s11 zz103=>?_);obtain⟨_,H11,I11,_,n11⟩:=zz103;exact pinsOk I11 n11
 rw[yenv] at loop;refine codeAny_compStart_list ?_ (T.self _ 0 _ _ _ st4 ?_)
 · exact loop
 · exact loop
theorem dU {X:Cx} {elt tg iter:Expr} {ifs:List Expr} {sc:Scope} {pos:Pos} {wi:TI} {g:TG} {tc:TT} {te:TE} {own:List Str} {outs:List (Nat×Str)} (hc:X.calm=true) (S:aI X sc own outs) (hi:PI X tg iter wi)
 (hb:∀ (fp:List Addr) (pins:AOs) (s:Shared) (H:Hp),PG (blk X sc (cN X.env.cells sc.names []) (fz own outs) fp pins s H) tg g ∧
   rj (blk X sc (cN X.env.cells sc.names []) (fz own outs) fp pins s H) ifs tc∧PE (blk X sc (cN X.env.cells sc.names []) (fz own outs) fp pins s H) elt te)
 (hs:∀ x,foldedSetIterable iter X.env x=pure x:=by intro _;rfl):PE X (.ListComp elt [⟨tg,iter,ifs,0⟩] sc pos) (tLC wi own.length outs g tc te):=by
 intro pins s σ H Q I h;rw[eval_ListComp];exact mH hc S hi hb hs I h fun D c m6 H5 s6 I6 n6 f6 cl sz cc cp q=>⟨m6,n6,fun h7 sb7=>⟨.ref D,H5,I6.turned (t':=s6.toks) (fun b o hb e=>(sb7.2 b hb).trans e) f6 cl.symm (.inr sz) cc cp,rfl,q⟩⟩
def Itx (x:Str):It:=⟨fun i _=>i<x.cps.size,fun i H v H'=>H'=H∧∃ c,x.cps.toList[i]?=some c∧v=.str ⟨#[c]⟩,fun i _=>x.cps.size≤i⟩
def BX (tl:TE):TI:=fun σ H R=>tl σ H fun v H1=>∃ x,v=.str x∧R (Itx x) H1
structure di (J:It) (xs:List V) (Ok:Hp→Prop):Prop where
  go:∀ i H,Ok H→i<xs.length→J.go i H
  yld:∀ i H x H',J.go i H→Ok H→J.yld i H x H'→H'=H∧xs[i]?=some x
  stop:∀ i H,Ok H→xs.length≤i→J.stop i H
theorem aK {K:Fg} {a:Addr} {xs:List V}:di (Itl K a) xs (fun H=>SqL K H a xs) :=
 ⟨fun i H q hi=>⟨xs,xs[i],q,by simp[hi]⟩,fun i H x H' _ q y=>⟨y.1,y.2 xs q⟩,fun i H q hi=>⟨xs,q,hi⟩⟩
theorem bT {K:Fg} {a:Addr} {xs:List V}:di (Itt K a) xs (fun H=>SqT K H a xs) :=
 ⟨fun i H q hi=>⟨xs,xs[i],q,by simp[hi]⟩,fun i H x H' _ q y=>⟨y.1,y.2 xs q⟩,fun i H q hi=>⟨xs,q,hi⟩⟩
def bG (lo:Int) (n:Nat):List V:=(List.range n).map fun (i:Nat)=>V.int (lo+(i:Int))
theorem b4 {lo:Int} {n:Nat}:di (Itr lo n) (bG lo n) (fun _=>True) :=
 ⟨fun i H _ hi=>by show i<n;simpa [bG] using hi,fun i H v H' hg _ y=>by
   obtain⟨e,h⟩:=y;refine⟨e,?_⟩;have hi:i<n:=hg;rw[h];simp[bG,hi],fun i H _ hi=>by show n≤i;simpa [bG] using hi⟩
theorem wE {J:It} {xs:List V} {Ok:Hp→Prop} (Y:di J xs Ok) {g:TG} {tb:TS} {D:eO} {σ:St} {H:Hp} (Pv:Nat→St→Hp→Prop) (h0:Pv 0 σ H) (hl:∀ i σ H,i≤xs.length→Pv i σ H→Ok H)
 (hs:∀ i x σ H,xs[i]?=some x→Pv i σ H→g x σ H fun σ2 H2=>tb {D with nx:=Pv (i+1),ct:=Pv (i+1),bk:=D.nx} σ2 H2) (hd:∀ σ H,Pv xs.length σ H→D.nx σ H) :
 ∃ W:Nat→Nat→St→Hp→Prop,(∃ m,W 0 m σ H)∧∀ i m σ H,W i m σ H →
  (J.stop i H∧D.nx σ H)∨(J.go i H∧∃ N:St→Hp→Prop,(∀ σ' H',N σ' H'→∃ m',m'<m∧W (i+1) m' σ' H')∧∀ x H',J.yld i H x H'→g x σ H' fun σ2 H2=>tb {D with nx:=N,ct:=N,bk:=D.nx} σ2 H2):=by
 refine⟨fun i m σ H=>m=xs.length-i∧i≤xs.length∧Pv i σ H,⟨xs.length,by simp,Nat.zero_le _,h0⟩,?_⟩;rintro i m σ H ⟨rfl,hi,p⟩;have q:=hl i σ H hi p;by_cases hlt:i<xs.length
 · refine .inr ⟨Y.go i H q hlt,Pv (i+1),fun σ' H' p'=>⟨xs.length-(i+1),Nat.sub_succ_lt_self _ _ hlt,rfl,hlt,p'⟩,fun x H' y=>?_⟩;obtain⟨e,y2⟩:=Y.yld i H x H' (Y.go i H q hlt) q y;subst e;exact hs i x σ _ y2 p
 · have e:i=xs.length:=by lia
   subst e;exact .inl ⟨Y.stop _ H q (Nat.le_refl _),hd σ H p⟩
section
variable {X:Cx}
end
theorem eK {α:Type}:∀ {l:List α},l.length=1→∃ a,l=[a]:=by
 intro l h;cases l with
 | nil=>cases h
 | cons a r=>cases List.eq_nil_of_length_eq_zero (Nat.succ.inj h);exact⟨a,rfl⟩
theorem il {α:Type}:∀ {l:List α},l.length=2→∃ a b,l=[a,b]:=by
 intro l h;cases l with
 | nil=>cases h
 | cons a r=>obtain⟨b,rfl⟩:=eK (Nat.succ.inj h);exact⟨a,b,rfl⟩
theorem fO {α:Type}:∀ {l:List α},l.length=3→∃ a b c,l=[a,b,c]:=by
 intro l h;cases l with
 | nil=>cases h
 | cons a r=>obtain⟨b,c,rfl⟩:=il (Nat.succ.inj h);exact⟨a,b,c,rfl⟩
theorem nR {α:Type}:∀ {l:List α},l.length=4→∃ a b c d,l=[a,b,c,d]:=by
 intro l h;cases l with
 | nil=>cases h
 | cons a r=>obtain⟨b,c,d,rfl⟩:=fO (Nat.succ.inj h);exact⟨a,b,c,d,rfl⟩
section
variable {CX:CXT} {P:Program} {w:World} {K:Fg} {mg:SOV} {base:Heap} {N:List Str} {q:Str} {sc:Scope} {f:Addr} {cd:Value} {A:Around} {outer:List Env} {s:Shared} {H:Hp} {E:XK}
theorem bJ:(cJ CX P w K mg base N q sc f cd A outer s H E).nox.K=K:=rfl
end
structure Fn (P:Program) (w:World) (K:Fg) (mg:SOV) (base:Heap) (x:Str) (k:Nat) (ps:List Str) (sp:Sp):Prop where
  ex:∃ (f:Addr) (fd:FuncData),iM P w K mg base CX0 k f fd ps sp∧mg x=some (.ref f)∧PySem.W.keepIn K (.ref f)=true∧jg K fd ps []
def Def (K:Fg) (mg:SOV) (x:Str) (st:Stmt):Prop:=∃ (f:Addr) (fd:FuncData),Fun K x x st f fd∧mg x=some (.ref f)
section
variable {X:Cx} {x:Str} {p pos:Pos} {e:Expr} {es:List Expr} {t:TA} {k:Nat} {ps:List Str} {sp:Sp}
theorem aa (F:Fn X.prog X.w X.K X.mg X.base x k ps sp) (hr:cU k X.A) (hg:Gl X x) (ha:PA X (e::es) t) (hdb:(x==("__debug__":Str))=false:=by decide)
 (he:starEach (e::es) X.env=(false,eval e X.env)::starEach es X.env:=by rfl) (hpl:(backTo pos (starEach es X.env)).any (·.1)=false:=by rfl):PE X (.Call (.Name x p) (e::es) [] pos) (gP sp [] E0 t):=by
 obtain⟨f,fd,G,hm,hk,hb⟩:=F.ex;exact sB G hr hg hm hk hb .nil yQ ha (hdb:=hdb) (he:=he) (hpl:=hpl)
end
section
variable {P:Program} {w:World} {K:Fg} {mg:SOV} {base:Heap}
theorem Def.fn {x:Str} {st:Stmt} {N ps:List Str} {k:Nat} {sp:Sp} (D:Def K mg x st) (S:aB N ps (a7 st)) (len:∀ vs H Q E,sp vs H Q E→vs.length=ps.length)
 (hb:∀ (kV doc pm:Value) (an:Option Addr) (cdv ct:Value) (us:List Value),us.length=ps.length→bindArgs (PySem.W.fnOf x x (cG st) (aW st) (a7 st) .none kV doc pm an cdv ct) ⟨us,[]⟩=pure (ps.zip us))
 (hbody:∀ (f:Addr) (cdv:Value) (A:Around) (outer:List Env) (s:Shared) (H:Hp) (vs:List V) (Q:VK) (E:XK),cU k (A.deeper (envOfC x (a7 st) s.heap.objs.size f cdv))→sp vs H Q E →
   ∃ t,PSs (cJ CX0 P w K mg base N x (a7 st) f cdv A outer s H E).nox (aW st) t∧t {nx:=fun _ H'=>Q .non H',rt:=Q} (eQ N vs) H):Fn P w K mg base x (k+1) ps sp:=by
 obtain⟨f,fd,F,hm⟩:=D;exact⟨f,fd,F.ok S len (hbody f),hm,F.kp,F.binds hb⟩
end
section
variable {X:Cx} {p pos:Pos} {e:Expr} {es:List Expr} {t:TA}
theorem bc (hm:X.mg "len"=none) (ha:PA X (e::es) t) (hg:Gl X "len":=by rfl)
 (he:starEach (e::es) X.env=(false,eval e X.env)::starEach es X.env:=by rfl) (hpl:(backTo pos (starEach es X.env)).any (·.1)=false:=by rfl):PE X (.Call (.Name "len" p) (e::es) [] pos) (tCB (vG X.K) t):=ic jK hg hm PySem.boot_len ha (he:=he) (hpl:=hpl)
theorem gh:bootBuiltins "str"=some (.type "str"):=by decide +kernel
theorem gz:bootBuiltins "isinstance"=some (.builtin "isinstance"):=by decide +kernel
theorem B2 (hm:X.mg "str"=none) (ha:PA X (e::es) t) (hg:Gl X "str":=by rfl)
 (he:starEach (e::es) X.env=(false,eval e X.env)::starEach es X.env:=by rfl) (hpl:(backTo pos (starEach es X.env)).any (·.1)=false:=by rfl) :
 PE X (.Call (.Name "str" p) (e::es) [] pos) (tCB (fun xs H Q=>∃ i,xs=[.int i]∧i.natAbs.log2<1920∧Q (.str (toString i)) H) t):=ej jH hg hm gh ha (he:=he) (hpl:=hpl)
variable {o:Expr} {to:TE} {apos cpos:Pos}
theorem aX (ho:PE X o to) (ha:PA X [e] t) (hbase:attributeBase o "append" X.env (eval o X.env)=eval o X.env:=by rfl) (hline:(apos.endLine==cpos.line)=true:=by rfl)
 (hfew:((backTo cpos (starEach [e] X.env)).all (fun x=>!x.1)&&(backToKw cpos (keywordEach [] X.env)).all (fun x=>x.1.isSome)&&decide ([e].length+([]:List Keyword).length+(if ([]:List Keyword).isEmpty then 0 else 1)<30))=true:=by rfl)
 (hs:starEach [e] X.env=(false,eval e X.env)::starEach [] X.env:=by rfl) (hplain:(backTo cpos (starEach [] X.env)).any (·.1)=false:=by rfl) :
 PE X (.Call (.Attribute o "append" apos) [e] [] cpos) (tBM X.K "list" jo to t):=u4 PySem.F.plainAttrs_list PySem.F.slot_list_append PySem.F.type_list_append iX ho ha hbase hfew hline hs hplain
end
def aw (J:It) (g:TG) (a:TS) (D:eO) (σ:St) (H1:Hp):Prop:=∃ W:Nat→Nat→St→Hp→Prop,(∃ m,W 0 m σ H1)∧∀ i m σ H,W i m σ H →
  (J.stop i H∧D.nx σ H)∨(J.go i H∧∃ N:St→Hp→Prop,(∀ σ' H',N σ' H'→∃ m',m'<m∧W (i+1) m' σ' H')∧∀ x H',J.yld i H x H'→g x σ H' fun σ2 H2=>a {D with nx:=N,ct:=N,bk:=D.nx} σ2 H2)
theorem qK {x:V} {H:Hp} {R:Bool→Hp→Prop}:BlR x H R=∃ k,x=.bl k∧R k H:=propext ⟨fun h=>by obtain⟨v,a,b⟩:=h;exact⟨v,a,b⟩,fun h=>by obtain⟨v,a,b⟩:=h;exact⟨v,a,b⟩⟩
theorem sU {x:V} {H:Hp} {R:Int→Hp→Prop}:wW x H R=∃ k,x=.int k∧R k H:=propext ⟨fun h=>by obtain⟨v,a,b⟩:=h;exact⟨v,a,b⟩,fun h=>by obtain⟨v,a,b⟩:=h;exact⟨v,a,b⟩⟩
@[simp] theorem Bx {wi:TI} {g:TG} {a:TS} {D:eO} {σ:St} {H:Hp}:xw wi g a D σ H=wi σ H fun J H1=>aw J g a D σ H1:=rfl
theorem aw.by {J:It} {xs:List V} {Ok:Hp→Prop} (Y:di J xs Ok) {g:TG} {tb:TS} {D:eO} {σ:St} {H:Hp} (Pv:Nat→St→Hp→Prop) (h0:Pv 0 σ H) (hl:∀ i σ H,i≤xs.length→Pv i σ H→Ok H)
 (hs:∀ i x σ H,xs[i]?=some x→Pv i σ H→g x σ H fun σ2 H2=>tb {D with nx:=Pv (i+1),ct:=Pv (i+1),bk:=D.nx} σ2 H2) (hd:∀ σ H,Pv xs.length σ H→D.nx σ H):aw J g tb D σ H:=wE Y Pv h0 hl hs hd
def b6 (J:It) (g:TG) (tc:TT) (te:TE) (Q:VK) (σ0:St) (H1:Hp) (L:Addr):Prop :=
  ∃ W:Nat→Nat→St→Hp→Prop,(∃ m,W 0 m σ0 (upd H1 L (.lst [])))∧∀ i m σ' H',W i m σ' H' →
    (J.stop i H'∧Q (.ref L) H')∨(J.go i H'∧∃ N:St→Hp→Prop,(∀ σ2 H2,N σ2 H2→∃ m',m'<m∧W (i+1) m' σ2 H2)∧∀ x H2,J.yld i H' x H2→g x σ' H2 fun σ3 H3=>tc σ3 H3 fun b H4 =>
      if b=true then te σ3 H4 fun v H5=>∃ ys,H5 L=some (.lst ys)∧ys.length<sizeLine∧N σ3 (upd H5 L (.lst (ys++[v]))) else N σ3 H4)
@[simp] theorem cj {wi:TI} {k:Nat} {outs:List (Nat×Str)} {g:TG} {tc:TT} {te:TE} {σ:St} {H:Hp} {Q:VK}:tLC wi k outs g tc te σ H Q=wi σ H fun J H1=>∀ L,H1 L=none→b6 J g tc te Q (fT k outs σ) H1 L:=rfl
@[simp] theorem yF {k:Nat} {outs:List (Nat×Str)} {σ:St}:fT k outs σ=List.replicate k none++outs.map fun p=>(σ[p.1]?).getD none:=rfl
section
variable {D:eO} {σ:St} {H:Hp} {Q:VK} {R:Bool→Hp→Prop} {ta tb tc te:TE} {t u v:TT} {a b:TS} {x y:V} {i:Nat} {g:TG} {al:TA} {S:List V→Hp→Prop} {r r':R2}
@[simp] theorem fZ:v4 a b D σ H=a {D with nx:=b D} σ H:=rfl
@[simp] theorem B9:tU D σ H=D.nx σ H:=rfl
@[simp] theorem cz:rM te g D σ H=te σ H fun x H1=>g x σ H1 D.nx:=rfl
@[simp] theorem aL {N:St→Hp→Prop}:eT i x σ H N=N (σ.set i (some x)) H:=rfl
@[simp] theorem gX:xo te D σ H=te σ H D.rt:=rfl
@[simp] theorem Bb:oR te D σ H=te σ H fun _ H1=>D.nx σ H1:=rfl
@[simp] theorem Bw:v9 t a b D σ H=t σ H fun k H1=>if k=true then a D σ H1 else b D σ H1:=rfl
@[simp] theorem Bn:cq i σ H Q=∃ v,σ[i]?=some (some v)∧Q v H:=propext ⟨fun h=>by obtain⟨v,a,b⟩:=h;exact⟨v,a,b⟩,fun h=>by obtain⟨v,a,b⟩:=h;exact⟨v,a,b⟩⟩
@[simp] theorem yE:tC x σ H Q=Q x H:=rfl
@[simp] theorem Dd:tOp r ta tb σ H Q=ta σ H fun x H1=>tb σ H1 fun y H2=>r x y H2 Q:=rfl
@[simp] theorem Df:tIf t ta tb σ H Q=t σ H fun c H1=>if c=true then ta σ H1 Q else tb σ H1 Q:=rfl
@[simp] theorem B5:gl te σ H R=te σ H fun x H'=>∃ k,x=.bl k∧R k H':=congrArg (te σ H) (funext fun x=>funext fun H1=>qK)
@[simp] theorem D9:tB te σ H R=te σ H fun x H'=>∃ k,x=.bl k∧R k H':=congrArg (te σ H) (funext fun x=>funext fun H1=>qK)
@[simp] theorem yD:vi r r' ta tb tc σ H Q=ta σ H fun x H1=>tb σ H1 fun y H2=>r x y H2 fun z H3=>∃ k,z=.bl k∧(if k=true then tc σ H3 fun w' H4=>r' y w' H4 Q else Q (.bl false) H3):=rfl
@[simp] theorem Bq:xq t σ H R=t σ H fun c H1=>R (!c) H1:=rfl
@[simp] theorem By:vj t u σ H R=t σ H fun c H1=>if c=true then u σ H1 R else R false H1:=rfl
@[simp] theorem Dc:tOr t u σ H R=t σ H fun c H1=>if c=true then R true H1 else u σ H1 R:=rfl
@[simp] theorem Bd:xB ta tb σ H Q=ta σ H fun x H1=>∃ c,x=.bl c∧if c=true then tb σ H1 Q else Q (.bl false) H1:=rfl
@[simp] theorem Bp:Bi ta tb σ H Q=ta σ H fun x H1=>∃ c,x=.bl c∧if c=true then Q (.bl true) H1 else tb σ H1 Q:=rfl
@[simp] theorem B8:xp ta σ H Q=ta σ H fun x H1=>∃ c,x=.bl c∧Q (.bl (!c)) H1:=rfl
@[simp] theorem Br:iC σ H S=S [] H:=rfl
@[simp] theorem cD:cP te al σ H S=te σ H fun x H1=>al σ H1 fun xs H2=>S (x::xs) H2:=rfl
@[simp] theorem iS {rr:List V→Hp→VK→Prop}:tCB rr al σ H Q=al σ H fun vs H1=>rr vs H1 Q:=rfl
@[simp] theorem Bc {sp:Sp} {dvs:List V} {E:XK}:gP sp dvs E al σ H Q=al σ H fun vs H1=>sp (vs++dvs) H1 Q E:=rfl
@[simp] theorem pQ:uZ al σ H Q=al σ H fun xs H1=>xs.length≤sizeLine∧∀ p,H1 p=none→Q (.ref p) (upd H1 p (.tup xs)):=rfl
@[simp] theorem Bs:v7 al σ H Q=al σ H fun xs H1=>xs.length≤sizeLine∧∀ p,H1 p=none→Q (.ref p) (upd H1 p (.lst xs)):=rfl
@[simp] theorem Dh {K:Fg} {T:String} {rr:V→List V→Hp→VK→Prop}:tBM K T rr te al σ H Q=te σ H fun x H1=>tyV K T x H1∧al σ H1 fun xs H2=>rr x xs H2 Q:=rfl
@[simp] theorem Da {rr:V→Option Int→Option Int→Hp→VK→Prop} {tl th:TO}:tSl rr te tl th σ H Q=te σ H fun x H1=>tl σ H1 fun l H2=>th σ H2 fun u H3=>rr x l u H3 Q:=rfl
@[simp] theorem xh {O:Option Int→Hp→Prop}:mm σ H O=O none H:=rfl
@[simp] theorem B7 {O:Option Int→Hp→Prop}:tT te σ H O=te σ H fun x H1=>∃ i,x=.int i∧O (some i) H1:=congrArg (te σ H) (funext fun x=>funext fun H1=>sU)
@[simp] theorem Db {C:Int→Int→Prop} {f:Int→Int→V}:rI C f x y H Q=∃ i j,x=.int i∧y=.int j∧C i j∧Q (f i j) H:=propext ⟨fun h=>by obtain⟨i,j,a,b,c,d⟩:=h;exact⟨i,j,a,b,c,d⟩,fun h=>by obtain⟨i,j,a,b,c,d⟩:=h;exact⟨i,j,a,b,c,d⟩⟩
@[simp] theorem Bo {f:Int→Int→V}:rI0 f x y H Q=∃ i j,x=.int i∧y=.int j∧Q (f i j) H:=propext ⟨fun h=>by obtain⟨i,j,a,b,c⟩:=h;exact⟨i,j,a,b,c⟩,fun h=>by obtain⟨i,j,a,b,c⟩:=h;exact⟨i,j,a,b,c⟩⟩
@[simp] theorem Dg:rEq x y H Q=(rT x y=true∧Q (.bl (decide (x=y))) H):=rfl
@[simp] theorem De:rNe x y H Q=(rT x y=true∧Q (.bl (!decide (x=y))) H):=rfl
@[simp] theorem Bv {K:Fg}:pV K x y H Q=∃ p xs i v,x=.ref p∧y=.int i∧SqL K H p xs∧atI xs i=some v∧Q v H:=propext ⟨fun h=>by obtain⟨p,xs,i,v,a,b,c,d,e⟩:=h;exact⟨p,xs,i,v,a,b,c,d,e⟩,fun h=>by obtain⟨p,xs,i,v,a,b,c,d,e⟩:=h;exact⟨p,xs,i,v,a,b,c,d,e⟩⟩
@[simp] theorem Bu:vH x y H Q=∃ z i c,x=.str z∧y=.int i∧z.length≤sizeLine∧atI z.cps.toList i=some c∧Q (.str ⟨#[c]⟩) H:=rfl
@[simp] theorem df:nC σ H R=R true H:=rfl
@[simp] theorem yB {N:List Str} {vs:List V}:eQ N vs=vs.map some++List.replicate (N.length-vs.length) none:=rfl
@[simp] theorem B6 {RR:It→Hp→Prop}:u8 al σ H RR=al σ H fun vs H1=>∃ j:Int,vs=[.int j]∧-(2 ^ 62)≤j∧j<2 ^ 62∧RR (Itr 0 j.toNat) H1:=rfl
@[simp] theorem yC {K:Fg} {RR:It→Hp→Prop}:u9 K te σ H RR=te σ H fun x H1=>∃ a,x=.ref a∧(∃ xs,SqL K H1 a xs)∧RR (Itl K a) H1:=rfl
@[simp] theorem Ba {RR:It→Hp→Prop}:BX te σ H RR=te σ H fun v H1=>∃ x,v=.str x∧RR (Itx x) H1:=rfl
end
theorem nd1 (x:Str):[x].Nodup:=by simp
end L2
namespace L2
open PySem PySem.Spec PyProof.Rows PySem.SeqAt
mutual
inductive eP (K:Fg) (H:Hp):V→PyData→Prop
  | non:eP K H .non .none
  | bl (b:Bool):eP K H (.bl b) (.bool b)
  | int (i:Int):eP K H (.int i) (.int i)
  | str (x:Str):eP K H (.str x) (.str x)
  | lst {a:Addr} {xs:List V} {ds:PDs}:SqL K H a xs→jf K H xs ds→eP K H (.ref a) (.list ds)
  | tup {a:Addr} {xs:List V} {ds:PDs}:SqT K H a xs→jf K H xs ds→eP K H (.ref a) (.tuple ds)
inductive jf (K:Fg) (H:Hp):List V→PDs→Prop
  | nil:jf K H [] []
  | cons {x:V} {d:PyData} {xs:List V} {ds:PDs}:eP K H x d→jf K H xs ds→jf K H (x::xs) (d::ds)
end
section
variable {X:Cx} {pins:AOs} {σ:St} {H:Hp} {s:Shared}
theorem eP.reads (I:Inv X pins σ H s) {v:V} {d:PyData} (h:eP X.K H v d):∀ {u:Value},aT v u→∃ as,Reads s.heap u d as:=by
 refine eP.rec (motive_1:=fun v d _=>∀ {u:Value},aT v u→∃ as,Reads s.heap u d as) (motive_2:=fun xs ds _=>∀ {us:List Value},aQ xs us→∃ as,ReadsAll s.heap us ds as) ?_ ?_ ?_ ?_ ?_ ?_ ?_ ?_ h
 · intro u r;cases (show u=Value.none from r);exact⟨_,.none⟩
 · intro b u r;cases (show u=Value.bool b from r);exact⟨_,.bool b⟩
 · intro i u r;obtain⟨t,e⟩:=(show ∃ t,u=Value.int i t from r);rw[e];exact⟨_,.int i t⟩
 · intro x u r;obtain⟨t,e⟩:=(show ∃ t,u=Value.str x t from r);rw[e];exact⟨_,.str x t⟩
 · intro a xs ds hq hd ih u r;cases r;obtain⟨its,rv,p,hz⟩:=I.list hq;obtain⟨as,ra⟩:=ih rv;obtain⟨o,ho,hc,n,hdt⟩:=p.isList;exact⟨_,.list ho hc hdt (by simpa using ra)⟩
 · intro a xs ds hq hd ih u r;cases r;obtain⟨its,rv,p,hz⟩:=I.tuple hq;obtain⟨as,ra⟩:=ih rv;obtain⟨o,ho,hc,n,hdt⟩:=p;exact⟨_,.tuple ho hc hdt (by simpa using ra)⟩
 · intro us r;cases r;exact⟨_,.nil⟩
 · intro x d xs ds a b ih1 ih2 us r;cases r with
   | cons r t =>
    obtain⟨as,x⟩:=ih1 r;obtain⟨bs,y⟩:=ih2 t;exact⟨_,.cons x y⟩
def BC (K:Fg):R2:=fun x y H Q=>∃ d e,eP K H x d∧eP K H y e∧shaped d=true∧shaped e=true∧Q (.bl (PyData.eqv d e)) H
inductive AV (K:Fg) (x y:V) (H:Hp) (Q:VK):Prop
  | mk (d e:PyData) (h1:eP K H x d) (h2:eP K H y e) (h3:shaped d=true) (h4:shaped e=true) (q:Q (.bl (!PyData.eqv d e)) H):AV K x y H Q
def yK (K:Fg):R2:=fun x y H Q=>AV K x y H Q
theorem vQ (hu:X.A.units+64<cLine):OpR X (compareOp .Eq) (BC X.K):=by
 intro pins s σ H x y v u Q I rx ry h;obtain⟨d,e,hd,he,sd,se,q⟩:=h;obtain⟨as,ra⟩:=hd.reads I rx;obtain⟨bs,rb⟩:=he.reads I ry;exact eq_dataH ra rb sd se hu ⟨.bl _,H,I,rfl,q⟩
theorem lw (hu:X.A.units+64<cLine):OpR X (compareOp .NotEq) (yK X.K):=by
 intro pins s σ H x y v u Q I rx ry h;obtain⟨d,e,hd,he,sd,se,q⟩:=h;obtain⟨as,ra⟩:=hd.reads I rx;obtain⟨bs,rb⟩:=he.reads I ry;exact ne_dataH ra rb sd se hu ⟨.bl _,H,I,rfl,q⟩
end
section
variable {K:Fg} {H H':Hp}
theorem ak.seqT {a:Addr} {xs:List V} (e:ak H H') (h:SqT K H a xs):SqT K H' a xs:=by
 rcases h with (h | ⟨o,h⟩) | h
 · exact .inl (.inl (e _ _ h))
 · exact .inl (.inr ⟨o,e _ _ h⟩)
 · exact .inr h
end
end L2
namespace L2
open PySem PySem.Spec PyProof.Rows
section
variable {X:Cx} {p pos:Pos} {e:Expr} {t:TA} {o:Expr} {to:TE} {apos cpos:Pos}
theorem lU:bootBuiltins "list"=some (.type "list"):=by decide +kernel
theorem cw:bootBuiltins "tuple"=some (.type "tuple"):=by decide +kernel
theorem wZ {es:List Expr} (hm:X.mg "list"=none) (ha:PA X (e::es) t) (hg:Gl X "list":=by rfl)
 (he:starEach (e::es) X.env=(false,eval e X.env)::starEach es X.env:=by rfl) (hpl:(backTo pos (starEach es X.env)).any (·.1)=false:=by rfl) :
 PE X (.Call (.Name "list" p) (e::es) [] pos) (tCB (fun xs H Q=>∃ p ys,xs=[.ref p]∧(SqL X.K H p ys∨SqT X.K H p ys)∧∀ l,H l=none→Q (.ref l) (upd H l (.lst ys))) t):=ej jJ hg hm lU ha (he:=he) (hpl:=hpl)
end
@[simp] theorem wq:∀ ys:List Str,(Txt.join ("":Str) ys).cps.toList=(ys.map fun y=>y.cps.toList).flatten:=by
 intro ys;have e:("":Str)=Str.empty:=by decide +kernel
 rw[e];have key:∀ ys:List Str,(Str.join Str.empty ys).cps.toList=(ys.map fun y=>y.cps.toList).flatten:=by
  intro ys
  induction ys with
  | nil=>rfl
  | cons y r ih =>
   cases r with
   | nil=>simp[Str.join]
   | cons y2 r2 =>
    show ((y++Str.empty++Str.join Str.empty (y2::r2):Str)).cps.toList=_;rw[Str.append_empty,Str.cps_append,Array.toList_append,ih];rfl
 rw[show Txt.join Str.empty ys=Str.join Str.empty ys from StrLaws.glued_eq_join _ _];exact key ys
theorem b6.by {J:It} {xs:List V} {Ok:Hp→Prop} (Y:di J xs Ok) {g:TG} {tc:TT} {te:TE} {Q:VK} {σ0:St} {H1:Hp} {L:Addr} (Pv:Nat→St→Hp→Prop) (h0:Pv 0 σ0 (upd H1 L (.lst []))) (hl:∀ i σ H,i≤xs.length→Pv i σ H→Ok H)
 (hs:∀ i x σ H,xs[i]?=some x→Pv i σ H→g x σ H fun σ3 H3=>tc σ3 H3 fun b H4=>if b=true then te σ3 H4 fun v H5=>∃ ys,H5 L=some (.lst ys)∧ys.length<sizeLine∧Pv (i+1) σ3 (upd H5 L (.lst (ys++[v]))) else Pv (i+1) σ3 H4)
 (hd:∀ σ H,Pv xs.length σ H→Q (.ref L) H):b6 J g tc te Q σ0 H1 L:=by
 refine⟨fun i m σ H=>m=xs.length-i∧i≤xs.length∧Pv i σ H,⟨xs.length,by simp,Nat.zero_le _,h0⟩,?_⟩;rintro i m σ H ⟨rfl,hi,p⟩;have q:=hl i σ H hi p;by_cases hlt:i<xs.length
 · refine .inr ⟨Y.go i H q hlt,Pv (i+1),fun σ' H' p'=>⟨xs.length-(i+1),Nat.sub_succ_lt_self _ _ hlt,rfl,hlt,p'⟩,fun x H' y=>?_⟩;obtain⟨e,y2⟩:=Y.yld i H x H' (Y.go i H q hlt) q y;subst e;exact hs i x σ _ y2 p
 · have e:i=xs.length:=by lia
   subst e;exact .inl ⟨Y.stop _ H q (Nat.le_refl _),hd σ H p⟩
theorem aI.of {X:Cx} {sc:Scope} {own:List Str} {outs:List (Nat×Str)} (fsc:Scope) (N:List Str) (hX:X.env.scope=fsc:=by rfl) (hN:X.N=N:=by rfl) (k:sc.kind=.function:=by rfl) (nc:∀ y∈sc.names,y.2≠.cell:=by decide +kernel) (l:∀ y∈sc.names,y.2=.local→sc.names.lookup y.1=some .local:=by decide +kernel)
 (fr:∀ y∈sc.names,y.2=.free→fsc.names.lookup y.1=some .cell∨fsc.names.lookup y.1=some .free:=by decide +kernel)
 (no:∀ p∈outs,sc.names.lookup p.2≠some .local:=by decide +kernel) (hn:∀ p∈outs,N[p.1]?=some p.2∧(fsc.names.lookup p.2=some .cell∨fsc.names.lookup p.2=some .free):=by decide +kernel):aI X sc own outs:=by
 subst hX hN;refine⟨k,nc,l,fr,fun p hp e=>no p hp ?_,hn⟩;have m:=fc e;unfold relabel at m;obtain⟨⟨n,k'⟩,m1,m2⟩:=List.mem_map.mp m;dsimp only at m2;split at m2
 · cases m2
 · cases m2;exact l _ m1 rfl
section
variable {X:Cx}
def yO (K:Fg):R2:=fun x y H Q=>∃ l b xs zs,x=.ref l∧y=.ref b∧SqL K H l xs∧SqL K H b zs∧xs.length+zs.length≤sizeLine∧∀ p,H p=none→Q (.ref p) (upd H p (.lst (xs++zs)))
theorem fL:OpR X (binaryOp .Add) (yO X.K):=by
 intro pins s σ H x y v u Q I rx ry h;obtain⟨l,b,xs,zs,rfl,rfl,hH,hB,hz,q⟩:=h;cases rx;cases ry;obtain⟨its,r,pl,_⟩:=I.list hH;obtain⟨its2,r2,pl2,_⟩:=I.list hB;have h1:=r.length;have h2:=r2.length;obtain⟨⟨cls,dd,data,sl⟩,ho,hc,n,hd⟩:=pl.isList;obtain⟨⟨cls2,dd2,data2,sl2⟩,ho2,hc2,n2,hd2⟩:=pl2.isList;simp only at hc hd hc2 hd2;subst hc hd hc2 hd2;have e:its.toArray++its2.toArray=(its++its2).toArray:=by simp
 refine concat_meets ⟨_,ho,rfl⟩ ⟨_,ho2,rfl⟩ noFill_list_add seq_list_add PySem.F.slot_list_add PySem.F.entry_list_add (PySem.F.args_list_add_2 _ _) (list_addW l b its.toArray its2.toArray n n2 dd dd2 sl sl2 (by simp;lia)) ⟨ho,ho2,?_⟩;rw[e];exact⟨.ref _,_,I.lnew (t':=s.toks) (r.append r2) (by rw[lAp];lia),rfl,q _ I.fresh⟩
end
section
variable {X:Cx} {e:Expr} {t:TA} {o:Expr} {to:TE} {apos cpos:Pos}
variable {p pos:Pos} {es:List Expr}
end
section
variable {κ:Type} [DecidableEq κ]
def bP (kvs:List (κ×V)) (k:κ):Option V:=(kvs.find? fun kv=>decide (kv.1=k)).map (·.2)
def bS (kvs:List (κ×V)) (k:κ) (v:V):List (κ×V) :=
  if (kvs.any fun kv=>decide (kv.1=k))=true then kvs.map (fun kv=>if kv.1=k then (kv.1,v) else kv) else kvs++[(k,v)]
theorem bU {p:κ×V} {r:List (κ×V)} {k:κ} (e:p.1=k):bP (p::r) k=some p.2:=by simp[bP,List.find?_cons,e]
theorem bV {p:κ×V} {r:List (κ×V)} {k:κ} (e:¬ p.1=k):bP (p::r) k=bP r k:=by simp[bP,List.find?_cons,e]
theorem dR (k:κ):∀ kvs:List (κ×V),(kvs.any fun kv=>decide (kv.1=k))=(bP kvs k).isSome
 | []=>rfl
 | p::r=>by
  rw[List.any_cons];by_cases e:p.1=k
  · simp only[bU e,decide_eq_true e,Bool.true_or,Option.isSome_some]
  · rw[bV e,decide_eq_false e,Bool.false_or];exact dR k r
theorem jW (k j:κ) (y:V):∀ kvs:List (κ×V),bP (kvs.map fun kv=>if kv.1=k then (kv.1,y) else kv) j=(bP kvs j).map fun x=>if j=k then y else x
 | []=>rfl
 | p::r=>by
  have ih:=jW k j y r;rw[List.map_cons];by_cases h:p.1=k
  · rw[if_pos h];by_cases e:p.1=j
    · rw[bU (p:=(p.1,y)) e,bU e,Option.map_some,if_pos (e.symm.trans h)]
    · rw[bV (p:=(p.1,y)) e,bV e,ih]
  · rw[if_neg h];by_cases e:p.1=j
    · rw[bU (p:=p) e,bU e,Option.map_some,if_neg (fun z=>h (e.trans z))]
    · rw[bV (p:=p) e,bV e,ih]
theorem iO (k j:κ) (y:V):∀ kvs:List (κ×V),bP kvs k=none→bP (kvs++[(k,y)]) j=if j=k then some y else bP kvs j
 | [],_=>by
  by_cases e:k=j
  · rw[if_pos e.symm];exact bU (p:=(k,y)) e
  · rw[if_neg (fun z=>e z.symm)];exact bV (p:=(k,y)) e
 | p::r,hn=>by
  rw[List.cons_append];have hk:¬ p.1=k:=fun z=>by rw[bU z] at hn;cases hn
  rw[bV hk] at hn;have ih:=iO k j y r hn;by_cases e:p.1=j
  · rw[bU e,bU e,if_neg (fun z=>hk (e.trans z))]
  · rw[bV e,bV e,ih]
theorem dl (kvs:List (κ×V)) (k j:κ) (y:V):bP (bS kvs k y) j=if j=k then some y else bP kvs j:=by
 unfold bS;by_cases a:(kvs.any fun kv=>decide (kv.1=k))=true
 · rw[if_pos a,jW];rw[dR] at a;by_cases e:j=k
   · obtain⟨x,hx⟩:=Option.isSome_iff_exists.mp a;rw[if_pos e,e,hx,Option.map_some,if_pos rfl]
   · rw[if_neg e];cases bP kvs j with
     | none=>rfl
     | some x=>rw[Option.map_some,if_neg e]
 · rw[if_neg a];refine iO k j y kvs ?_;rw[dR] at a;cases q:bP kvs k with
   | none=>rfl
   | some x=>rw[q] at a;exact (a rfl).elim
theorem bq (kvs:List (κ×V)) (k:κ) (v:V):(bS kvs k v).length≤kvs.length+1:=by
 unfold bS;split
 · rw[lMp];lia
 · rw[lAp,List.length_cons,List.length_nil];lia
theorem fB.isSome_eq {o:Option V} {u:Option Value} (r:fB o u):o.isSome=u.isSome:=by
 cases o with
 | none=>cases u with
  | none=>rfl
  | some _=>exact (show False from r).elim
 | some _=>cases u with
  | none=>exact (show False from r).elim
  | some _=>rfl
theorem fB.getD {o:Option V} {u:Option Value} {d:V} {d':Value} (r:fB o u) (rd:aT d d'):aT (o.getD d) (u.getD d'):=by
 cases o with
 | none=>cases u with
  | none=>exact rd
  | some _=>exact (show False from r).elim
 | some _=>cases u with
  | none=>exact (show False from r).elim
  | some _=>exact r
theorem KV.val {kvs:List (κ×V)} {vs:List (κ×Value)} (r:KV kvs vs) (k:κ):fB (bP kvs k) (valueAt vs k):=by
 unfold KV at r
 induction r with
 | nil=>exact True.intro
 | @cons p q ps qs h t ih =>
  obtain⟨h1,h2⟩:=h;by_cases e:p.1=k
  · have e':q.1=k:=h1.symm.trans e;have b:valueAt (q::qs) k=some q.2:=by simp[valueAt,List.find?_cons,e']
    rw[bU e,b];exact h2
  · have e':¬ q.1=k:=fun z=>e (h1.trans z);have b:valueAt (q::qs) k=valueAt qs k:=by simp[valueAt,List.find?_cons,e']
    rw[bV e,b];exact ih
theorem KV.any {kvs:List (κ×V)} {vs:List (κ×Value)} (r:KV kvs vs) (k:κ):(kvs.any fun kv=>decide (kv.1=k))=vs.any fun kv=>decide (kv.1=k):=by
 unfold KV at r
 induction r with
 | nil=>rfl
 | cons h t ih=>rw[List.any_cons,List.any_cons,ih,h.1]
theorem KV.repl {kvs:List (κ×V)} {vs:List (κ×Value)} (r:KV kvs vs) (k:κ) {y:V} {u:Value} (ry:aT y u) :
 KV (kvs.map fun kv=>if kv.1=k then (kv.1,y) else kv) (vs.map fun kv=>if kv.1=k then (kv.1,u) else kv):=by
 unfold KV at r ⊢
 induction r with
 | nil=>exact .nil
 | @cons p q ps qs h t ih =>
  rw[List.map_cons,List.map_cons];refine .cons ?_ ih;obtain⟨h1,h2⟩:=h;by_cases e:p.1=k
  · rw[if_pos e,if_pos (h1.symm.trans e)];exact⟨h1,ry⟩
  · rw[if_neg e,if_neg (fun z=>e (h1.trans z))];exact⟨h1,h2⟩
theorem KV.put {kvs:List (κ×V)} {vs:List (κ×Value)} (r:KV kvs vs) (k:κ) {y:V} {u:Value} (ry:aT y u):KV (bS kvs k y) (stored vs k u):=by
 unfold bS stored;rw[r.any k];by_cases e:(vs.any fun kv=>decide (kv.1=k))=true
 · rw[if_pos e,if_pos e];exact r.repl k ry
 · rw[if_neg e,if_neg e];exact Paired.snoc r ⟨rfl,ry⟩
theorem KV.length {kvs:List (κ×V)} {vs:List (κ×Value)} (r:KV kvs vs):kvs.length=vs.length:=Paired.length r
end
theorem gp {P:Program} {w:World} {k:Key} {u:Value} (r:aT (kV k) u):(ax P w).is k u=true:=by
 cases k with
 | inl i=>obtain⟨t,e⟩:=(show ∃ t,u=Value.int i t from r);subst e;exact kF P w i t
 | inr x=>obtain⟨t,e⟩:=(show ∃ t,u=Value.str x t from r);subst e;exact dY P w x t
theorem iZ {P:Program} {w:World}:∀ {ks:List Key} {us:List Value},aQ (ks.map kV) us→ItemsAre (ax P w) ks us
 | [],_,r=>by rw[List.map_nil] at r;cases r;exact .nil
 | k::ks,_,r=>by
  rw[List.map_cons] at r;cases r with
  | cons h t=>exact .cons (gp h) (iZ t)
abbrev KT (H:Hp):List (List Key×V)→List (List Key×Addr×Value)→Prop:=Paired fun p q=>p.1=q.1∧H q.2.1=some (.tup (p.1.map kV))∧aT p.2 q.2.2
theorem KT.val {H:Hp} {kvs:List (List Key×V)} {xs:List (List Key×Addr×Value)} (r:KT H kvs xs) (k:List Key):fB (bP kvs k) ((atKey xs k).map (·.2)):=by
 induction r with
 | nil=>exact True.intro
 | @cons p q ps qs h t ih =>
  obtain⟨h1,_,h2⟩:=h;by_cases e:p.1=k
  · have e':q.1=k:=h1.symm.trans e;have b:atKey (q::qs) k=some q.2:=by simp[atKey,List.find?_cons,e']
    rw[bU e,b];exact h2
  · have e':¬ q.1=k:=fun z=>e (h1.trans z);have b:atKey (q::qs) k=atKey qs k:=by simp[atKey,List.find?_cons,e']
    rw[bV e,b];exact ih
theorem KT.repl {H:Hp} {kvs:List (List Key×V)} {xs:List (List Key×Addr×Value)} (r:KT H kvs xs) (k:List Key) {y:V} {u:Value} (ry:aT y u) :
 KT H (kvs.map fun kv=>if kv.1=k then (kv.1,y) else kv) (xs.map (putAt k u)):=by
 induction r with
 | nil=>exact .nil
 | @cons p q ps qs h t ih =>
  rw[List.map_cons,List.map_cons];refine .cons ?_ ih;obtain⟨h1,h2,h3⟩:=h;unfold putAt;by_cases e:p.1=k
  · rw[if_pos e,if_pos (h1.symm.trans e)];exact⟨h1,h2,ry⟩
  · rw[if_neg e,if_neg (fun z=>e (h1.trans z))];exact⟨h1,h2,h3⟩
theorem KT.put {H:Hp} {kvs:List (List Key×V)} {xs:List (List Key×Addr×Value)} (r:KT H kvs xs) (k:List Key) {b:Addr} {y:V} {u:Value} (hb:H b=some (.tup (k.map kV))) (ry:aT y u) :
 KT H (bS kvs k y) (storedH xs k b u):=by
 have e:(kvs.any fun kv=>decide (kv.1=k))=(atKey xs k).isSome:=by
  rw[dR,(r.val k).isSome_eq,Option.isSome_map]
 unfold bS storedH;rw[e];by_cases q:(atKey xs k).isSome=true
 · rw[if_pos q,if_pos q];exact r.repl k ry
 · rw[if_neg q,if_neg q];exact Paired.snoc r ⟨rfl,hb,ry⟩
theorem KT.keeps {H H':Hp} {kvs:List (List Key×V)} {xs:List (List Key×Addr×Value)} (r:KT H kvs xs) (ht:∀ b ys,H b=some (.tup ys)→H' b=some (.tup ys)):KT H' kvs xs :=
 Paired.mapP r fun _ _ z=>⟨z.1,ht _ _ z.2.1,z.2.2⟩
section
variable {P:Program} {w:World} {H:Hp} {h:Heap} {a:Addr}
theorem tZ {u:HO} (ok:HOk P w H h) (e:Rd H a u):bj P w H h a u:=e.ok ok
theorem kN {kvs:List (Key×V)} (ok:HOk P w H h) (e:Rd H a (.dK kvs)):kvs.length≤sizeLine∧(a==sysModules)=false∧∃ vs,KV kvs vs∧h.DictOf (ax P w) a vs :=
 show bj P w H h a (.dK kvs) from tZ ok e
theorem kO {kvs:List (Key×V)} (ok:HOk P w H h) (e:H a=some (.dK kvs)):kvs.length≤sizeLine∧(a==sysModules)=false∧∃ vs,KV kvs vs∧h.DictOf (ax P w) a vs:=kN ok (.inl e)
theorem io {ks:List Key} (ok:HOk P w H h) (e:H a=some (.tup (ks.map kV))):(tupleKind (ax P w)).is h ks a:=by
 obtain⟨_,its,r,o,h1,h2,n,h3⟩:=(show bj P w H h a (.tup (ks.map kV)) from ok a _ e);exact⟨o,its.toArray,n,h1,h2,h3,by simpa using iZ r⟩
theorem kM {kvs:List (List Key×V)} (ok:HOk P w H h) (e:Rd H a (.dT kvs)):kvs.length≤sizeLine∧(a==sysModules)=false ∧
 ∃ xs,KT H kvs xs∧h.DictOfH (tupleKind (ax P w)) a xs:=by
 obtain⟨z,y,xs,r,o,es,ep,h1,h2,h3,h4,h5⟩:=(show bj P w H h a (.dT kvs) from tZ ok e);refine⟨z,y,xs,r,o,es,ep,h1,h2,h3,h4,fun x hx=>?_,h5⟩;have all:∀ {l:List (List Key×V)} {m:List (List Key×Addr×Value)},KT H l m→∀ x∈m,(tupleKind (ax P w)).is h x.1 x.2.1:=by
  intro l m q
  induction q with
  | nil=>intro x hx;exact nomatch hx
  | @cons p q ps qs hq t ih =>
   intro x hx
   rcases List.mem_cons.mp hx with e | hx
   · subst e;exact io ok (by rw[← hq.1];exact hq.2.1)
   · exact ih x hx
 exact all r x hx
theorem AC {kvs:List (List Key×V)} (ok:HOk P w H h) (e:H a=some (.dT kvs)):kvs.length≤sizeLine∧(a==sysModules)=false ∧
 ∃ xs,KT H kvs xs∧h.DictOfH (tupleKind (ax P w)) a xs:=kM ok (.inl e)
end
def bR (H:Hp) (a:Addr) (y:V) (r:Option V):Prop :=
  (∃ kvs k,Rd H a (.dK kvs)∧y=kV k∧r=bP kvs k)∨∃ kvs k b,Rd H a (.dT kvs)∧y=.ref b∧H b=some (.tup (k.map kV))∧r=bP kvs k
def dk (H:Hp) (a:Addr) (y v:V) (H':Hp):Prop :=
  (∃ kvs k,H a=some (.dK kvs)∧y=kV k∧kvs.length<sizeLine∧H'=upd H a (.dK (bS kvs k v))) ∨
  ∃ kvs k b,H a=some (.dT kvs)∧y=.ref b∧H b=some (.tup (k.map kV))∧kvs.length<sizeLine∧H'=upd H a (.dT (bS kvs k v))
theorem bR.k {H:Hp} {a:Addr} {kvs:List (Key×V)} {k:Key} (e:H a=some (.dK kvs)):bR H a (kV k) (bP kvs k):=.inl ⟨kvs,k,.inl e,rfl,rfl⟩
theorem dk.k {H:Hp} {a:Addr} {kvs:List (Key×V)} {k:Key} {v:V} (e:H a=some (.dK kvs)) (hl:kvs.length<sizeLine):dk H a (kV k) v (upd H a (.dK (bS kvs k v))):=.inl ⟨kvs,k,e,rfl,hl,rfl⟩
theorem dk.t {H:Hp} {a b:Addr} {kvs:List (List Key×V)} {k:List Key} {v:V} (e:H a=some (.dT kvs)) (eb:H b=some (.tup (k.map kV))) (hl:kvs.length<sizeLine) :
 dk H a (.ref b) v (upd H a (.dT (bS kvs k v))):=.inr ⟨kvs,k,b,e,rfl,eb,hl,rfl⟩
section
variable {X:Cx} {pins:AOs} {σ:St} {H:Hp} {s:Shared} {a:Addr} {y v:V} {u r:Value} {o:Option V} {A:Around} {E:VSP}
theorem Inv.big (I:Inv X pins σ H s):sysModules<s.heap.objs.size:=by
 have h:mainGlobals<s.heap.objs.size:=(I.mod.glob.keeps I.bk).lt;exact Nat.lt_trans (by decide) h
theorem og {Q:VSP} (hu:A.units+1<cLine) (I:Inv X pins σ H s) (g:bR H a y (some v)) (ry:aT y u) (h:∀ w' s',Inv X pins σ H s'→aT v w'→Q w' s') :
 wpAny (model X.prog X.w) A (getItem (.ref a) u) Q E s:=by
 rcases g with ⟨kvs,k,e,ey,l⟩ | ⟨kvs,k,b,e,ey,eb,l⟩
 · subst ey;obtain⟨z,hd,vs,rel,dd⟩:=kN I.hok e;obtain⟨w',hw,rw'⟩:=fB.some_of (v:=v) (o:=valueAt vs k) (by rw[l];exact rel.val k);exact wpAny_getItem_of (gp ry) dd.mapOf hw (h w' _ (I.tok _) rw')
 · subst ey;cases (show u=Value.ref b from ry);obtain⟨z,hd,xs,rel,dd⟩:=kM I.hok e;obtain⟨w',hw,rw'⟩:=fB.some_of (v:=v) (o:=(atKey xs k).map (·.2)) (by rw[l];exact rel.val k);obtain⟨p,hp,hp2⟩:=oMS.mp hw;refine wpAny_getItem_heap (tupleKind_room_in1 hu) (io I.hok eb) dd hp ?_;rw[hp2];exact h w' _ (I.tok _) rw'
theorem dF {h':Heap} {t':Nat} {ob:HO} (I:Inv X pins σ H s) (mu:Mut (H a)) (hs:Heap.SameBut a s.heap h') (he:∃ q,h'.get? a=some q) (new:bj X.prog X.w (upd H a ob) h' a ob) :
 Inv X pins σ (upd H a ob) {s with heap:=h',toks:=t'} :=
 I.write (x:=a) (e:=a) mu (.inl rfl) (fun b q hb z=>(hs.2 b hb).trans z) he new
theorem jD {P:Program} {w:World} {H':Hp} {h':Heap} {kvs:List (Key×V)} {vs:List (Key×Value)} (z:kvs.length≤sizeLine) (hd:(a==sysModules)=false) (rel:KV kvs vs) (dd:h'.DictOf (ax P w) a vs) :
 bj P w H' h' a (.dK kvs):=⟨z,hd,vs,rel,dd⟩
theorem o9 {H':Hp} {Q:Unit→Shared→Prop} (hu:A.units+1<cLine) (I:Inv X pins σ H s) (g:dk H a y v H') (ry:aT y u) (rv:aT v r) (h:∀ s',Inv X pins σ H' s'→Q () s') :
 wpAny (model X.prog X.w) A (setItem (.ref a) u r) Q E s:=by
 rcases g with ⟨kvs,k,e,ey,l,eH⟩ | ⟨kvs,k,b,e,ey,eb,l,eH⟩
 · subst ey eH;obtain⟨z,hd,vs,rel,dd⟩:=kO I.hok e;have hz:vs.length≤sizeLine:=by rw[← rel.length];exact z
   have hl:(bS kvs k v).length≤sizeLine:=by have:=bq kvs k v;lia
   refine wpAny_setItem_pairs (hsz:=hz) (gp ry) dd fun h' dd' hs=>h _ ?_;have he:∃ q,h'.get? a=some q:=let ⟨q,_,_,hq,_⟩:=dd';⟨q,hq⟩;exact dF I (by rw[e];exact True.intro) hs he (jD hl hd (rel.put k rv) dd')
 · subst ey eH;cases (show u=Value.ref b from ry);obtain⟨z,hd,xs,rel,dd⟩:=AC I.hok e;have hz:xs.length≤sizeLine:=by rw[← Paired.length rel];exact z
   have hl:(bS kvs k v).length≤sizeLine:=by have:=bq kvs k v;lia
   refine wpAny_setItem_heap (hsz:=hz) (tupleKind_room_in1 hu) (io I.hok eb) dd fun h' dd' hs=>h _ ?_;obtain⟨q,es,ep,hq,h2,h3,h4,_,h5⟩:=dd';refine dF I (by rw[e];exact True.intro) hs ⟨q,hq⟩ ⟨hl,hd,_,(rel.put k eb rv).keeps fun c ys ec=>?_,q,es,ep,hq,h2,h3,h4,h5⟩;rw[a9 (zL ec e (fun z=>nomatch z))];exact ec
end
section
variable {X:Cx} {pins:AOs} {σ:St} {H:Hp} {s:Shared} {a:Addr} {kvs:List (Key×V)} {k:Key} {u:Value} {A:Around} {E:VSP}
end
def tN (i:Expr):Prop:=∀ ov iv,subscripted i false ov iv=operate [ov,iv] (getItem ov iv)
theorem jj {prog:Program} {w:World} {A:Around} {E:VSP} {s:Shared} {env:Env} {value slice:Expr} {pos:Pos} {T id:String} {Q:VSP}
 (hl:typeLookup (.type T) "__getitem__"=pure (some (.builtin id))) (hs:tN slice)
 (h:wpAny (model prog w) A (eval value env) (fun o s₁=>wpAny (model prog w) A (eval slice env) (fun i s₂=>s₂.TypeIs o T∧wpAny (model prog w) A (getItem o i) Q E s₂) E s₁) E s) :
 wpAny (model prog w) A (eval (.Subscript value slice pos) env) Q E s:=by
 refine Subscript_ (wpAny_mono h (fun o s₁ h₁=>wpAny_mono h₁ (fun i s₂ h₂=>?_) fun _ _ x=>x) fun _ _ x=>x);obtain⟨hT,h₂⟩:=h₂;unfold subscriptTail;refine wB ?_;rw[getitemInPython_of_ne hT.not_modules];refine wB (wpAny_specialOf hT hl ?_);have fin:wpAny (model prog w) A (subscripted slice false o i) (fun r s₃=>wpAny (model prog w) A (letTemporaryGo value o r>>=fun _=>pure r) Q E s₃) E s₂:=by
  rw[hs o i];exact wpAny_operating (wpAny_mono h₂ (fun r s₃ h₃=>wB (wpAny_letTemporaryGo (wP h₃))) fun _ _ x=>x)
 first
  | exact wP (wB fin)
  | exact wB (wP (wB fin))
  | exact wB fin
theorem kP {X:Cx} {pins:AOs} {σ:St} {H:Hp} {s:Shared} {a:Addr} {y:V} {o:Option V} (I:Inv X pins σ H s) (g:bR H a y o):s.TypeIs (.ref a) "dict":=by
 rcases g with ⟨kvs,k,e,_,_⟩ | ⟨kvs,k,b,e,_,_,_⟩
 · obtain⟨_,_,vs,_,dd⟩:=kN I.hok e;exact dd.typeIs
 · obtain⟨_,_,xs,_,dd⟩:=kM I.hok e;exact dd.typeIs
inductive uU (x y:V) (H:Hp) (Q:VK):Prop
  | mk (a:Addr) (v:V) (h:x=.ref a) (g:bR H a y (some v)) (q:Q v H):uU x y H Q
def xz (td ty:TE):TE:=fun σ H Q=>td σ H fun x H1=>ty σ H1 fun y H2=>uU x y H2 Q
inductive rC (x y v:V) (H:Hp) (N:Hp→Prop):Prop
  | mk (a:Addr) (H4:Hp) (h:x=.ref a) (g:dk H a y v H4) (q:N H4):rC x y v H N
def tY (td ty tv:TE):TS:=fun D σ H=>tv σ H fun v H1=>td σ H1 fun x H2=>ty σ H2 fun y H3=>rC x y v H3 (D.nx σ)
section
variable {X:Cx} {o i e value:Expr} {pos pos' tpos:Pos} {td ty tv:TE}
theorem pM (hu:X.A.units+1<cLine) (ho:PE X o td) (hi:PE X i ty) (hs:tN i):PE X (.Subscript o i pos) (xz td ty):=by
 intro pins s σ H Q I h;refine jj PySem.F.slot_dict_getitem.lookup hs (thn (ho pins s σ H _ I h) fun u s1 zy85=>?_);obtain⟨x,H1,I1,rx,q1⟩:=zy85;refine thn (hi pins s1 σ H1 _ I1 q1) fun iv s2 zy86=>?_;obtain⟨y,H2,I2,ry,a,v,ex,g,q2⟩:=zy86;subst ex;obtain rfl:u=Value.ref a:=rx;exact⟨kP I2 g,og hu I2 g ry fun w' s3 I3 rw'=>⟨v,H2,I3,rw',q2⟩⟩
theorem bg (hu:X.A.units+1<cLine) (ho:PE X o td) (hi:PE X i ty) (hv:PE X value tv) (hs:swapsWith value (some (.Subscript o i pos')) pos.line X.env=pure false) :
 PS X (.Assign [.Subscript o i pos'] value pos) (tY td ty tv):=by
 intro pins s σ H D I h;refine wpAny_Assign_Subscript (thn (hv pins s σ H _ I h) fun r s1 zy91=>?_) hs;obtain⟨v,H1,I1,rv,q1⟩:=zy91;refine thn (ho pins s1 σ H1 _ I1 q1) fun u s2 zy92=>?_;obtain⟨x,H2,I2,rx,q2⟩:=zy92;refine thn (hi pins s2 σ H2 _ I2 q2) fun iv s3 zy93=>?_;obtain⟨y,H3,I3,ry,a,H4,ex,g,q3⟩:=zy93;subst ex;obtain rfl:u=Value.ref a:=rx;exact o9 hu I3 g ry rv fun s4 I4=>⟨σ,H4,I4,q3⟩
end
theorem iu {P:Program} {w:World} {H:Hp} (h:Heap) (hb:sysModules<h.objs.size):bj P w H (h.push {cls:=.type "dict",data:=.dict #[]}) h.objs.size (.dK []) :=
 ⟨Nat.zero_le _,beq_eq_false_iff_ne.mpr (Ne.symm (Nat.ne_of_lt hb)),[],.nil,Heap.DictOf.new h⟩
theorem qC {P:Program} {w:World} {H:Hp} (h:Heap) (hb:sysModules<h.objs.size):bj P w H (h.push {cls:=.type "dict",data:=.dict #[]}) h.objs.size (.dT []) :=
 ⟨Nat.zero_le _,beq_eq_false_iff_ne.mpr (Ne.symm (Nat.ne_of_lt hb)),[],.nil,_,#[],0,Heap.get?_push_size _ rfl,⟨rfl,rfl,rfl⟩,rfl,rfl,List.nodup_nil⟩
def vf:TE:=fun _ H Q=>∀ p,H p=none→Q (.ref p) (upd H p (.dK []))
def vd:TE:=fun _ H Q=>∀ p,H p=none→Q (.ref p) (upd H p (.dT []))
section
variable {X:Cx} {pos:Pos}
theorem kC:PE X (.Dict [] [] pos) vf:=fun pins s σ H Q I h =>
 wpAny_Dict_empty ⟨.ref s.heap.objs.size,_,I.laid (a:=s.heap.objs.size) (o:=.dK []) (t':=s.toks) (fun _ _ q=>hpS _ q) (Nat.le_refl _) (iu s.heap I.big),rfl,h _ (I.hok.fresh (Nat.le_refl _))⟩
theorem kA:PE X (.Dict [] [] pos) vd:=fun pins s σ H Q I h =>
 wpAny_Dict_empty ⟨.ref s.heap.objs.size,_,I.laid (a:=s.heap.objs.size) (o:=.dT []) (t':=s.toks) (fun _ _ q=>hpS _ q) (Nat.le_refl _) (qC s.heap I.big),rfl,h _ (I.hok.fresh (Nat.le_refl _))⟩
end
def ji:List (TE×TE)→St→Hp→(List (V×V)→Hp→Prop)→Prop
  | [],_,H,Q=>Q [] H
  | (tk,tv)::r,σ,H,Q=>tk σ H fun x H1=>tv σ H1 fun y H2=>ji r σ H2 fun ps H3=>Q ((x,y)::ps) H3
abbrev VV:List (V×V)→List (Value×Value)→Prop:=Paired fun p q=>aT p.1 q.1∧aT p.2 q.2
def PPs (X:Cx) (pos:Pos) (keys:List (Option Expr)) (values:List Expr) (trs:List (TE×TE)):Prop :=
  ∀ (pins:AOs) (s:Shared) (σ:St) (H:Hp) (Q:List (V×V)→Hp→Prop),Inv X pins σ H s→ji trs σ H Q →
    wpAny (model X.prog X.w) X.A (evalPairs (pairTrees keys values X.env pos)) (fun vs s'=>∃ ps H',Inv X pins σ H' s'∧VV ps vs∧Q ps H') X.xe s
theorem mB {X:Cx} {pos:Pos}:PPs X pos [] [] []:=fun pins s σ H Q I h=>pairTrees_nil_walk ⟨[],H,I,.nil,h⟩
theorem bF {X:Cx} {pos:Pos} {k v:Expr} {ks:List (Option Expr)} {vs:List Expr} {tk tv:TE} {trs:List (TE×TE)} (hk:PE X k tk) (hv:PE X v tv) (hr:PPs X pos ks vs trs) :
 PPs X pos (some k::ks) (v::vs) ((tk,tv)::trs):=fun pins s σ H Q I h =>
 pairTrees_cons_walk (thn (hk pins s σ H _ I h) fun u s1 ⟨x,H1,I1,rx,q1⟩=>thn (hv pins s1 σ H1 _ I1 q1) fun w2 s2 ⟨y,H2,I2,ry,q2⟩ =>
   thn (hr pins s2 σ H2 _ I2 q2) fun ws s3 ⟨ps,H3,I3,rel,q3⟩=>⟨(x,y)::ps,H3,I3,.cons ⟨rx,ry⟩ rel,q3⟩)
def bQ (kvs more:List (Key×V)):List (Key×V):=more.foldl (fun acc kv=>bS acc kv.1 kv.2) kvs
theorem KV.merge:∀ {more:List (Key×V)} {rs:List (Key×Value)} {kvs:List (Key×V)} {vs:List (Key×Value)},KV more rs→KV kvs vs→KV (bQ kvs more) (merged vs rs):=by
 intro more rs kvs vs r;unfold KV at r
 induction r generalizing kvs vs with
 | nil=>intro q;exact q
 | @cons p q ps qs h t ih =>
  intro r0;have e:KV (bS kvs p.1 p.2) (stored vs q.1 q.2):=by
   have:=r0.put p.1 h.2;rw[← h.1];exact this
  exact ih e
theorem cF:∀ (more kvs:List (Key×V)),(bQ kvs more).length≤kvs.length+more.length
 | [],kvs=>by show kvs.length≤kvs.length+0;lia
 | p::r,kvs=>by
  have h1:=cF r (bS kvs p.1 p.2);have h2:=bq kvs p.1 p.2;show (bQ (bS kvs p.1 p.2) r).length≤_;rw[List.length_cons];lia
theorem fq {P:Program} {w:World}:∀ {kvs:List (Key×V)} {ws:List (Value×Value)},VV (kvs.map fun kv=>(kV kv.1,kv.2)) ws→∃ rs,Carries (ax P w) ws rs∧KV kvs rs
 | [],_,r=>by rw[List.map_nil] at r;cases r;exact⟨[],True.intro,.nil⟩
 | p::kvs,_,r=>by
  rw[List.map_cons] at r;cases r with
  | @cons a b as bs h t =>
   obtain⟨rs,c,q⟩:=fq (P:=P) (w:=w) t;obtain⟨b1,b2⟩:=b;exact⟨(p.1,b2)::rs,⟨gp h.1,rfl,c⟩,.cons ⟨rfl,h.2⟩ q⟩
def xx (trs:List (TE×TE)):TE:=fun σ H Q=>∀ p,H p=none→ji trs σ (upd H p (.dK [])) fun ps H2=>H2 p=some (.dK [])∧∃ kvs:List (Key×V),ps=kvs.map (fun kv=>(kV kv.1,kv.2))∧kvs.length≤15∧Q (.ref p) (upd H2 p (.dK (bQ [] kvs)))
theorem sA {X:Cx} {pos:Pos} {keys:List (Option Expr)} {values:List Expr} {trs:List (TE×TE)} (h:PPs X pos keys values trs) (hall:keys.all (·.isSome)=true) (hl:keys.length=values.length) (h0:keys≠[])
 (h15:keys.length≤15):PE X (.Dict keys values pos) (xx trs):=by
 intro pins s σ H Q I q;have hn:=I.hok.fresh (Nat.le_refl s.heap.objs.size);have I1:=I.laid (a:=s.heap.objs.size) (o:=.dK []) (h':=s.heap.push {cls:=.type "dict",data:=.dict #[]}) (t':=s.toks) (fun _ _ q=>hpS _ q) (Nat.le_refl _) (iu s.heap I.big);refine wpAny_Dict_walk (knd:=ax X.prog X.w) hall hl h0 h15 (thn (h pins _ σ _ _ I1 (q _ hn)) fun ws s2 zy100=>?_);obtain⟨ps,H2,I2,rel,e,kvs,ep,lk,q2⟩:=zy100;subst ep;obtain⟨rs,c,rk⟩:=fq (P:=X.prog) (w:=X.w) rel;obtain⟨z,hd,vs0,r0,dd⟩:=kO I2.hok e;cases r0;refine⟨rs,c,dd,fun h' dd' hs=>⟨.ref s.heap.objs.size,_,?_,rfl,q2⟩⟩;have hz:(bQ [] kvs).length≤sizeLine:=by
  have h1:=cF kvs [];rw[List.length_nil] at h1;rw[sizeLine_eq];lia
 have he:∃ q,h'.get? s.heap.objs.size=some q:=let ⟨q,_,_,hq,_⟩:=dd';⟨q,hq⟩;exact dF I2 (by rw[e];exact True.intro) hs he (jD hz hd (rk.merge .nil) dd')
structure M1 (X:Cx) (o:Expr) (m:Str) (apos:Pos) (e:Expr) (cpos:Pos):Prop where
  base:attributeBase o m X.env (eval o X.env)=eval o X.env
  few:((backTo cpos (starEach [e] X.env)).all (fun x=>!x.1)&&(backToKw cpos (keywordEach [] X.env)).all (fun x=>x.1.isSome)
    && decide (([e]:List Expr).length+([]:List Keyword).length+(if ([]:List Keyword).isEmpty then 0 else 1)<30))=true
  line:(apos.endLine==cpos.line)=true
  trees:backTo cpos (starEach [e] X.env)=[(false,eval e X.env)]
structure M2 (X:Cx) (o:Expr) (m:Str) (apos:Pos) (e f:Expr) (cpos:Pos):Prop where
  base:attributeBase o m X.env (eval o X.env)=eval o X.env
  few:((backTo cpos (starEach [e,f] X.env)).all (fun x=>!x.1)&&(backToKw cpos (keywordEach [] X.env)).all (fun x=>x.1.isSome)
    && decide (([e,f]:List Expr).length+([]:List Keyword).length+(if ([]:List Keyword).isEmpty then 0 else 1)<30))=true
  line:(apos.endLine==cpos.line)=true
  trees:backTo cpos (starEach [e,f] X.env)=[(false,eval e X.env),(false,eval f X.env)]
def IsD (H:Hp) (a:Addr):Prop:=(∃ kvs,Rd H a (.dK kvs))∨∃ kvs,Rd H a (.dT kvs)
theorem wu {X:Cx} {pins:AOs} {σ:St} {H:Hp} {s:Shared} {a:Addr} (I:Inv X pins σ H s) (d:IsD H a) :
 s.TypeIs (.ref a) "dict"∧(∀ b,Value.ref a=.ref b→∃ ob,s.heap.get? b=some ob∧ob.dict=none)∧(a==sysModules)=false:=by
 rcases d with ⟨kvs,e⟩ | ⟨kvs,e⟩
 · obtain⟨_,hd,vs,_,dd⟩:=kN I.hok e;refine⟨dd.typeIs,fun b q=>?_,hd⟩;cases q;obtain⟨ob,_,_,h1,h2,_⟩:=dd;exact⟨ob,h1,h2.2.1⟩
 · obtain⟨_,hd,xs,_,dd⟩:=kM I.hok e;refine⟨dd.typeIs,fun b q=>?_,hd⟩;cases q;obtain⟨ob,_,_,h1,h2,_⟩:=dd;exact⟨ob,h1,h2.2.1⟩
section
variable {X:Cx} {pins:AOs} {σ:St} {H:Hp} {s:Shared} {a:Addr} {y d:V} {u r:Value} {o:Option V} {A:Around} {E:VSP}
theorem wJ {Q:VSP} (hu:A.units+1<cLine) (I:Inv X pins σ H s) (g:bR H a y o) (ry:aT y u) (rd:aT d r) (h:∀ w' s',Inv X pins σ H s'→aT (o.getD d) w'→Q w' s') :
 wpAny (model X.prog X.w) A (call (.builtin "dict.get") [.ref a,u,r]) Q E s:=by
 rcases g with ⟨kvs,k,e,ey,l⟩ | ⟨kvs,k,b,e,ey,eb,l⟩
 · subst ey;obtain⟨z,hd,vs,rel,dd⟩:=kN I.hok e;refine call_meetsIn PySem.F.slot_dict_get dd.typeIs PySem.F.entry_dict_get (PySem.F.args_dict_get_3 _ _ _) (meets_dict_get_default (ax X.prog X.w) a (gp ry) hd r) ⟨_,dd.mapOf,h _ _ (I.tok _) ?_⟩;rw[l];exact (rel.val k).getD rd
 · subst ey;cases (show u=Value.ref b from ry);obtain⟨z,hd,xs,rel,dd⟩:=kM I.hok e;refine call_meetsIn PySem.F.slot_dict_get dd.typeIs PySem.F.entry_dict_get (PySem.F.args_dict_get_3 _ _ _) (meetsH_dict_get_default (tupleKind (ax X.prog X.w)) a b hd r) ⟨tupleKind_room_in1 hu,k,xs,io I.hok eb,dd,h _ _ (I.tok _) ?_⟩;rw[l];exact (rel.val k).getD rd
end
def vh (td ty tx:TE):TE:=fun σ H Q=>td σ H fun x H1=>∃ a,x=.ref a∧IsD H1 a∧ty σ H1 fun y H2=>tx σ H2 fun z H3=>∃ o,bR H3 a y o∧Q (o.getD z) H3
section
variable {X:Cx} {o e f:Expr} {apos cpos:Pos} {td ty tx:TE}
theorem dv (hu:X.A.units+1<cLine) (ho:PE X o td) (he:PE X e ty) (hf:PE X f tx) (m:M2 X o "get" apos e f cpos):PE X (.Call (.Attribute o "get" apos) [e,f] [] cpos) (vh td ty tx):=by
 intro pins s σ H Q I h;refine wpAny_Call_method m.base m.few m.line PySem.F.plainAttrs_dict PySem.F.slot_dict_get PySem.F.type_dict_get (thn (ho pins s σ H _ I h) fun u s1 zy103=>?_);obtain⟨x,H1,I1,rx,a,ex,d,q1⟩:=zy103;subst ex;obtain rfl:u=Value.ref a:=rx;obtain⟨t1,t2,_⟩:=wu I1 d;refine⟨t1,t2,?_⟩;rw[m.trees];refine Calls.callWith_builtin rfl (Calls.evalArgs_plain (Calls.spliced_cons (thn (he pins s1 σ H1 _ I1 q1) fun iv s2 zy104=>?_)));obtain⟨y,H2,I2,ry,q2⟩:=zy104;refine Calls.spliced_cons (thn (hf pins s2 σ H2 _ I2 q2) fun fv s3 zy105=>?_);obtain⟨z,H3,I3,rz,ov,g,q3⟩:=zy105;refine Calls.spliced_nil ?_;exact wJ hu I3 g ry rz fun w' s4 I4 rw'=>⟨_,H3,I4,rw',q3⟩
end
section
variable {X:Cx} {pins:AOs} {σ:St} {H:Hp} {s:Shared} {a:Addr} {kvs:List (Key×V)} {A:Around} {E:VSP}
end
section
variable {X:Cx} {pins:AOs} {σ:St} {H:Hp} {s:Shared} {a:Addr} {y:V} {u:Value} {A:Around} {E:VSP}
end
section
variable {X:Cx}
def kq (K:Fg):R2:=fun x y H Q=>∃ a b xs ys,x=.ref a∧y=.ref b∧SqT K H a xs∧SqT K H b ys∧xs.length+ys.length≤sizeLine ∧
  (xs=[]→Q (.ref b) H)∧(xs≠[]→ys=[]→Q (.ref a) H)∧(xs≠[]→ys≠[]→∀ p,H p=none→Q (.ref p) (upd H p (.tup (xs++ys))))
theorem cR:OpR X (binaryOp .Add) (kq X.K):=by
 intro pins s σ H x y v u Q I rx ry h;obtain⟨a,b,xs,ys,rfl,rfl,ha,hb,hz,q0,q1,q2⟩:=h;by_cases hx:xs=[]
 · cases rx;cases ry;obtain⟨its,r1,p1,_⟩:=I.tuple ha;obtain⟨its2,r2,p2,_⟩:=I.tuple hb;have e0:its=[]:=r1.nil_iff.mpr hx;subst e0;obtain⟨⟨c1,d1,t1,s1⟩,ho,hc,n,hd⟩:=p1;obtain⟨⟨c2,d2,t2,s2⟩,ho2,hc2,n2,hd2⟩:=p2;simp only at hc hd hc2 hd2;subst hc hd hc2 hd2;exact concat_meets ⟨_,ho,rfl⟩ ⟨_,ho2,rfl⟩ noFill_tuple_add seq_tuple_add PySem.F.slot_tuple_add PySem.F.entry_tuple_add (PySem.F.args_tuple_add_2 _ _) (tuple_addW0 a b _ _ n n2 d1 d2 s1 s2 (by simp)) ⟨ho,ho2,⟨.ref b,H,I,rfl,q0 hx⟩⟩
 · exact sE pins s σ H _ _ v u Q I rx ry ⟨a,b,xs,ys,rfl,rfl,ha,hb,hx,hz,q1 hx,q2 hx⟩
def mX (P:Program) (w:World) (K:Fg) (a:Addr) (kvs:List (Key×V)):Prop:=∃ (o:Obj) (vs:List (Key×Value)),K.lookup a=some o∧o.IsDictOf (ax P w) vs∧KV kvs vs∧(a==sysModules)=false
theorem mX.of {pins:AOs} {σ:St} {H:Hp} {s:Shared} {a:Addr} {kvs:List (Key×V)} (I:Inv X pins σ H s) (h:mX X.prog X.w X.K a kvs):(a==sysModules)=false∧∃ vs,KV kvs vs∧s.heap.DictOf (ax X.prog X.w) a vs:=by
 obtain⟨o,vs,h1,h2,h3,h4⟩:=h;exact⟨h4,vs,h3,Heap.dictOf_iff.mpr ⟨o,I.kIn a o h1,h2⟩⟩
variable {o i:Expr} {pos:Pos} {td ty:TE}
def xu (P:Program) (w:World) (K:Fg) (td ty:TE):TE:=fun σ H Q=>td σ H fun x H1=>ty σ H1 fun y H2=>∃ a kvs k v,x=.ref a∧mX P w K a kvs∧y=kV k∧bP kvs k=some v∧Q v H2
theorem jr (ho:PE X o td) (hi:PE X i ty) (hs:tN i):PE X (.Subscript o i pos) (xu X.prog X.w X.K td ty):=by
 intro pins s σ H Q I h;refine jj PySem.F.slot_dict_getitem.lookup hs (thn (ho pins s σ H _ I h) fun u s1 zz116=>?_);obtain⟨x,H1,I1,rx,q1⟩:=zz116;refine thn (hi pins s1 σ H1 _ I1 q1) fun iv s2 zz117=>?_;obtain⟨y,H2,I2,ry,a,kvs,k,v,ex,g,ey,l,q2⟩:=zz117;subst ex ey;obtain rfl:u=Value.ref a:=rx;obtain⟨hd,vs,rel,dd⟩:=g.of I2;obtain⟨w',hw,rw'⟩:=fB.some_of (v:=v) (o:=valueAt vs k) (by rw[← l];exact rel.val k);exact⟨dd.typeIs,wpAny_getItem_of (gp ry) dd.mapOf hw ⟨v,H2,I2.tok _,rw',q2⟩⟩
end
theorem eR {X:Cx} {elt tg iter:Expr} {ifs:List Expr} {sc:Scope} {pos spos py:Pos} {i0:Nat} {y0:Str} {wi:TI} {g:TG} {tc:TT} {te:TE} {own:List Str} {outs:List (Nat×Str)} (hc:X.calm=true) (S:aI X sc own outs) (hi:PI X tg iter wi)
 (hb:∀ (fp:List Addr) (pins:AOs) (s:Shared) (H:Hp),PG (blk X sc (cN X.env.cells sc.names []) (fz own outs) fp pins s H) tg g ∧
   rj (blk X sc (cN X.env.cells sc.names []) (fz own outs) fp pins s H) ifs tc∧PE (blk X sc (cN X.env.cells sc.names []) (fz own outs) fp pins s H) elt te)
 (hN:X.N.Nodup) (hi0:X.N[i0]?=some y0) (hx0:X.env.scope.names.lookup y0=some .local) (hsw:swapsWith (.ListComp elt [⟨tg,iter,ifs,0⟩] sc pos) (some (.Name y0 py)) spos.line X.env=pure true:=by rfl)
 (hs:∀ x,foldedSetIterable iter X.env x=pure x:=by intro _;rfl):PS X (.Assign [.Name y0 py] (.ListComp elt [⟨tg,iter,ifs,0⟩] sc pos) spos) (rM (tLC wi own.length outs g tc te) (eT i0)):=by
 intro pins s σ H DD I h;rw[exec_Assign_Name_used _ _ _ _ hsw];refine wB (wpAny_standAt (wB ?_));show wpAny _ X.A (do let _ ← comprehension (.ListComp elt [⟨tg,iter,ifs,0⟩] sc pos) sc X.env _ (newList []) false (eval iter X.env) (some (assign (.Name y0 py) X.env))) _ _ s;refine wB (wpAny_mono (Q:=fun _ s'=>∃ σ' H',Inv X pins σ' H' s'∧DD.nx σ' H') ?_ (fun _ s' hq=>wP (wP hq)) fun _ _ e=>e);refine mH hc S hi hb hs I h fun D c m6 H5 s6 I7 n6 f6 cl sz cc cp q=>?_;refine wpAny_assign_Name (iP I7 hN hi0 (.inl hx0) (v:=.ref D) rfl (fun s8 I8 z=>?_) (.inr hx0));obtain⟨a8,sb8,h8⟩:=z;have a8c:c≠a8:=by
  rcases h8 with z | z
  · rw[z];exact cl.symm
  · exact (cc _ _ z).symm
 exact⟨m6,n6.sameBut sb8 a8c,fun h9 sb9=>⟨_,H5,I8.turned (t':=s8.toks) (fun b o hb e=>(sb9.2 b hb).trans e) f6 cl.symm (.inr sz) cc cp,q⟩⟩
mutual
inductive TD (K:Fg) (H:Hp):V→PyData→Prop
  | bl (b:Bool):TD K H (.bl b) (.bool b)
  | int (i:Int):TD K H (.int i) (.int i)
  | str (x:Str):TD K H (.str x) (.str x)
  | tup {a:Addr} {xs:List V} {ds:PDs}:SqT K H a xs→TDs K H xs ds→TD K H (.ref a) (.tuple ds)
inductive TDs (K:Fg) (H:Hp):List V→PDs→Prop
  | nil:TDs K H [] []
  | cons {x:V} {d:PyData} {xs:List V} {ds:PDs}:TD K H x d→TDs K H xs ds→TDs K H (x::xs) (d::ds)
end
def Tk (H H':Hp):Prop:=∀ b xs,Rd H b (.tup xs)→Rd H' b (.tup xs)
section
variable {K:Fg} {H H' H2:Hp}
theorem ak.tk (e:ak H H'):Tk H H':=fun b xs h=>by
 rcases h with h | ⟨o,h⟩
 · exact .inl (e _ _ h)
 · exact .inr ⟨o,e _ _ h⟩
theorem Tk.trans (a:Tk H H') (b:Tk H' H2):Tk H H2:=fun c xs h=>b c xs (a c xs h)
theorem bC {L:Addr} {o:HO} (h:H L=none∨∃ ys,H L=some (.lst ys)):Tk H (upd H L o):=fun b xs z=>by
 have ne:b≠L:=fun e=>by
  rw[e] at z
  rcases z with z | ⟨_,z⟩ <;> rcases h with h | ⟨ys,h⟩ <;> rw[h] at z <;> cases z
 rcases z with z | ⟨o',z⟩
 · exact .inl (by rw[a9 ne];exact z)
 · exact .inr ⟨o',by rw[a9 ne];exact z⟩
theorem SqT.tk {a:Addr} {xs:List V} (e:Tk H H') (h:SqT K H a xs):SqT K H' a xs:=by
 rcases h with h | h
 · exact .inl (e _ _ h)
 · exact .inr h
theorem TD.tk (e:Tk H H') {v:V} {d:PyData} (h:TD K H v d):TD K H' v d :=
 TD.rec (motive_1:=fun v d _=>TD K H' v d) (motive_2:=fun xs ds _=>TDs K H' xs ds) (fun b=>.bl b) (fun i=>.int i) (fun x=>.str x) (fun hq _ ih=>.tup (hq.tk e) ih) .nil (fun _ _ a b=>.cons a b) h
theorem TDs.tk (e:Tk H H') {xs:List V} {ds:PDs} (h:TDs K H xs ds):TDs K H' xs ds :=
 TDs.rec (motive_1:=fun v d _=>TD K H' v d) (motive_2:=fun xs ds _=>TDs K H' xs ds) (fun b=>.bl b) (fun i=>.int i) (fun x=>.str x) (fun hq _ ih=>.tup (hq.tk e) ih) .nil (fun _ _ a b=>.cons a b) h
theorem TD.dat {v:V} {d:PyData} (h:TD K H v d):eP K H v d :=
 TD.rec (motive_1:=fun v d _=>eP K H v d) (motive_2:=fun xs ds _=>jf K H xs ds) (fun b=>.bl b) (fun i=>.int i) (fun x=>.str x) (fun hq _ ih=>.tup hq ih) .nil (fun _ _ a b=>.cons a b) h
theorem TD.same {v:V} {d:PyData} (e:ak H H') (h:TD K H v d):TD K H' v d:=h.tk e.tk
theorem TDs.same {v:List V} {d:PDs} (e:ak H H') (h:TDs K H v d):TDs K H' v d:=h.tk e.tk
theorem TDs.length {xs:List V} {ds:PDs} (h:TDs K H xs ds):xs.length=ds.length:=by
 induction xs generalizing ds with
 | nil=>cases h;rfl
 | cons x r ih=>cases h with | cons a b=>rw[List.length_cons,List.length_cons,ih b]
theorem TDs.get {xs:List V} {ds:PDs} (h:TDs K H xs ds):∀ {i:Nat} {x:V},xs[i]?=some x→∃ d,ds[i]?=some d∧TD K H x d:=by
 induction xs generalizing ds with
 | nil=>intro i x z;simp at z
 | cons y r ih =>
  cases h with
  | cons a b =>
   intro i x z;cases i with
   | zero=>cases z;exact⟨_,rfl,a⟩
   | succ i=>exact ih b z
theorem TDs.snoc {xs:List V} {ds:PDs} {v:V} {d:PyData} (h:TDs K H xs ds) (hv:TD K H v d):TDs K H (xs++[v]) (ds++[d]):=by
 induction xs generalizing ds with
 | nil=>cases h;exact .cons hv .nil
 | cons y r ih=>cases h with | cons a b=>exact .cons a (ih b)
theorem TDs.drop {xs:List V} {ds:PDs} (h:TDs K H xs ds):∀ n,TDs K H (xs.drop n) (ds.drop n):=by
 induction xs generalizing ds with
 | nil=>cases h;intro n;cases n <;> exact .nil
 | cons y r ih =>
  cases h with
  | cons a b =>
   intro n;cases n with
   | zero=>exact .cons a b
   | succ n=>exact ih b n
theorem TDs.app {xs ys:List V} {ds es:PDs} (h:TDs K H xs ds) (h2:TDs K H ys es):TDs K H (xs++ys) (ds++es):=by
 induction xs generalizing ds with
 | nil=>cases h;exact h2
 | cons y r ih=>cases h with | cons a b=>exact .cons a (ih b)
theorem TD.int_of {v:V} {i:Int} (h:TD K H v (.int i)):v=.int i:=by cases h;rfl
theorem TD.str_of {v:V} {x:Str} (h:TD K H v (.str x)):v=.str x:=by cases h;rfl
theorem TD.tup_of {v:V} {ds:PDs} (h:TD K H v (.tuple ds)):∃ a xs,v=.ref a∧SqT K H a xs∧TDs K H xs ds:=by
 cases h with
 | tup hq hd=>exact⟨_,_,rfl,hq,hd⟩
end
theorem aG {H H2:Hp} {p:Addr} {o:HO} (s:ak H H2) (h:H p=none):ak H (upd H2 p o):=fun b u e=>by
 rw[a9 (bh e h)];exact s b u e
theorem smu {H:Hp} {L:Addr} {o:HO} (h:H L=none):ak H (upd H L o):=fun b u e=>by rw[a9 (bh e h)];exact e
theorem b6.dat {K:Fg} {n:Nat} {J:It} {xs:List V} {Ok:Hp→Prop} (y:di J xs Ok) {g:TG} {tc:TT} {te:TE} {Q:VK} {σ0:St} {H1:Hp} {L:Addr} {ds:PDs} (hlen:xs.length=ds.length) (hz:xs.length≤1000) (hL:H1 L=none) (hOk:∀ H,ak H1 H→Ok H)
 (hs:∀ (i:Nat) (x:V) (d:PyData) (σ:St) (H:Hp) (R:V→St→Hp→Prop) (T:St→Hp→Prop),xs[i]?=some x→ds[i]?=some d→ak H1 H→σ.drop n=σ0.drop n→σ.length=σ0.length →
   (∀ (v:V) (σ':St) (H':Hp),ak H H'→TD K H' v d→σ'.drop n=σ0.drop n→σ'.length=σ0.length→R v σ' H')→g x σ H fun σ3 H3=>tc σ3 H3 fun b H4=>if b=true then te σ3 H4 fun v H5=>R v σ3 H5 else T σ3 H4)
 (hQ:∀ (H:Hp) (ys:List V),ak H1 H→H L=some (.lst ys)→TDs K H ys ds→Q (.ref L) H):b6 J g tc te Q σ0 H1 L:=by
 refine b6.by y (fun i σ H=>ak H1 H∧(∃ ys,H L=some (.lst ys)∧TDs K H ys (ds.take i))∧σ.drop n=σ0.drop n∧σ.length=σ0.length) ⟨smu hL,⟨[],pG,.nil⟩,rfl,rfl⟩ (fun i σ H _ h=>hOk H h.1) ?_ ?_
 · rintro i x σ H hx ⟨sm,⟨ys,hy,hd⟩,e1,e2⟩;have hi:i<xs.length:=(gES.mp hx).1;have hdi:ds[i]?=some (ds[i]'(by lia)):=gEE (by lia);refine hs i x _ σ H _ _ hx hdi sm e1 e2 fun v σ' H' s' hv e3 e4=>?_;have hy':=s' _ _ hy;have tk:=bC (o:=HO.lst (ys++[v])) (.inr ⟨_,hy'⟩);refine⟨ys,hy',?_,aG (sm.trans s') hL,⟨_,pG,?_⟩,e3,e4⟩
   · have:=hd.length;rw[lTk] at this;have:(1000:Nat)<sizeLine:=by decide
     lia
   · rw[tAO,hdi];exact (hd.same s' |>.snoc hv).tk tk
 · rintro σ H ⟨sm,⟨ys,hy,hd⟩,_,_⟩;rw[hlen,List.take_length] at hd;exact hQ H ys sm hy hd
section
variable {X:Cx} {p pos apos cpos:Pos} {e:Expr} {es:List Expr} {t:TA} {o:Expr} {to:TE}
end
end L2
namespace L2
open PySem PySem.Spec PyProof.Rows
theorem iG:typeLookup (.type "tuple") (dunderI "add")=pure none:=by rw[typeLookup_type];kernel_rfl
section
variable {X:Cx}
theorem mJ:PIp X .Add (kq X.K):=by
 intro pins s σ H x y v u Q I rx ry h;obtain⟨a,b,xs,ys,rfl,rfl,ha,hb,hz,q0,q1,q2⟩:=h;cases rx;cases ry;obtain⟨its,r1,p1,_⟩:=I.tuple ha;obtain⟨its2,r2,p2,_⟩:=I.tuple hb;obtain⟨⟨c1,d1,t1,s1⟩,ho,hc,n,hd⟩:=p1;obtain⟨⟨c2,d2,t2,s2⟩,ho2,hc2,n2,hd2⟩:=p2;simp only at hc hd hc2 hd2;subst hc hd hc2 hd2;have hsz:its.length+its2.length≤sizeLine:=by rw[← r1.length,← r2.length];exact hz
 have ht:s.TypeIs (.ref a) "tuple":=⟨_,ho,rfl⟩;have ht2:s.TypeIs (.ref b) "tuple":=⟨_,ho2,rfl⟩;refine wpAny_inplaceOp_concat ht ht2 iG noFill_tuple_add seq_tuple_add ?_;by_cases hx:its=[]
 · exact call_meets PySem.F.slot_tuple_add ht PySem.F.entry_tuple_add (PySem.F.args_tuple_add_2 _ _) (tuple_addW0 a b _ _ n n2 d1 d2 s1 s2 (by simp[hx])) ⟨ho,ho2,⟨.ref b,H,I,rfl,q0 (r1.nil_iff.mp hx)⟩⟩
 · by_cases hy:its2=[]
   · exact call_meets PySem.F.slot_tuple_add ht PySem.F.entry_tuple_add (PySem.F.args_tuple_add_2 _ _) (tuple_addW1 a b _ _ n n2 d1 d2 s1 s2 (by simpa using hx) (by simp[hy])) ⟨ho,ho2,⟨.ref a,H,I,rfl,q1 (fun z=>hx (r1.nil_iff.mpr z)) (r2.nil_iff.mp hy)⟩⟩
   · refine call_meets PySem.F.slot_tuple_add ht PySem.F.entry_tuple_add (PySem.F.args_tuple_add_2 _ _) (tuple_addW2 a b _ _ n n2 d1 d2 s1 s2 (by simpa using hx) (by simpa using hy) (by rw[List.size_toArray,List.size_toArray];exact hsz)) ⟨ho,ho2,?_⟩;have e:its.toArray++its2.toArray=(its++its2).toArray:=by simp
     rw[e];refine⟨.ref s.heap.objs.size,_,I.laid (t':=s.toks) (o:=.tup (xs++ys)) (fun b ob q=>hpS _ q) (Nat.le_refl _) ?_,rfl,q2 (fun z=>hx (r1.nil_iff.mpr z)) (fun z=>hy (r2.nil_iff.mpr z)) _ (I.hok.fresh (Nat.le_refl _))⟩;exact⟨by rw[lAp];exact hz,_,r1.append r2,IsTup.new _ _⟩
end
structure Drw (prog:Program) (w:World) (i src:Addr) (xs:Array Value) (J:Nat→Heap→Prop):Prop where
  ext:∀ k h h',J k h→(∀ o,h.get? i=some o→h'.get? i=some o)→(∀ o,h.get? src=some o→h'.get? src=some o)→J k h'
  item:∀ (A:Around) (E:VSP) (s:Shared) (k:Nat) (x:Value) (Q:VSP),J k s.heap→xs[k]?=some x→(∀ h',J (k+1) h'→Heap.SameBut i s.heap h'→Q x {s with heap:=h'}) →
    wpAny (model prog w) A (Builtin.SmallTypes.nextOf (.ref i)) Q E s
  stop:∀ (A:Around) (E:VSP) (s:Shared) (k:Nat) (Q:VSP),A.handled=none→J k s.heap→xs[k]?=none→(∀ h' e,Heap.ExtBut i s.heap h'→(∃ o,h'.get? e=some o∧o.cls=.type "StopIteration")→E (.ref e) {s with heap:=h'}) →
    wpAny (model prog w) A (Builtin.SmallTypes.nextOf (.ref i)) Q E s
theorem eD {prog:Program} {w:World} (i t:Addr) (hne:t≠i) (xs:Array Value):Drw prog w i t xs (fun k h=>h.IsTupleIter i t k∧h.IsTuple t xs) where
 ext:=fun k h h' ⟨⟨o,a,r⟩,o2,a2,r2⟩ e1 e2=>⟨⟨o,e1 o a,r⟩,o2,e2 o2 a2,r2⟩
 item:=by
  rintro A E s k x Q ⟨st,ht⟩ hx q;obtain⟨o,ho,hc,hd⟩:=id st;obtain⟨ot,hot,ct,nt,dt⟩:=id ht;unfold Builtin.SmallTypes.nextOf;refine wB (wpAny_callSpecial?_slot (name:=Str.ofString "__next__") st.typeIs F.slot_tuple_iterator_next (wpAny_call_entry F.slot_tuple_iterator_next st.typeIs F.entry_tuple_iterator_next ?_ (F.args_tuple_iterator_next_1 _)));show wpAny _ _ (field (.ref i) 0>>=_) _ _ s;refine wB (wpAny_field ho hd (x:=.ref t) rfl ?_);show wpAny _ _ (if (Value.ref t==Value.none)=true then _ else _) _ _ s;rw[if_neg (fun z=>Bool.false_ne_true (show (Value.ref t==Value.none)=true from z))];show wpAny _ _ (field (.ref i) 1>>=_) _ _ s;refine wB (wpAny_field ho hd (x:=.int k 0) rfl ?_);show wpAny _ _ (seqItems? (.ref t)>>=_) _ _ s;refine wB (wpAny_seqItems hot dt ?_);simp only[Int.toNat_natCast,hx];refine wB (wpAny_setField ho hd (by simp) (wP ⟨x,rfl,wP (q _ ⟨?_,ht.extBut (Heap.SameBut.update ..).extBut hne⟩ (Heap.SameBut.update ..))⟩));exact⟨_,Heap.get?_update_self _ ho (Obj.isFreed_of_fields (Obj.data_mapFields hd _)),(Obj.cls_mapFields ..).trans hc,by rw[Obj.data_mapFields hd];simp[rawInt]⟩
 stop:=by
  rintro A E s k Q hh ⟨st,ht⟩ hx q;obtain⟨o,ho,hc,hd⟩:=id st;obtain⟨ot,hot,ct,nt,dt⟩:=id ht;unfold Builtin.SmallTypes.nextOf;refine wB (wpAny_callSpecial?_slot (name:=Str.ofString "__next__") st.typeIs F.slot_tuple_iterator_next (wpAny_call_entry F.slot_tuple_iterator_next st.typeIs F.entry_tuple_iterator_next ?_ (F.args_tuple_iterator_next_1 _)));show wpAny _ _ (field (.ref i) 0>>=_) _ _ s;refine wB (wpAny_field ho hd (x:=.ref t) rfl ?_);show wpAny _ _ (if (Value.ref t==Value.none)=true then _ else _) _ _ s;rw[if_neg (fun z=>Bool.false_ne_true (show (Value.ref t==Value.none)=true from z))];show wpAny _ _ (field (.ref i) 1>>=_) _ _ s;refine wB (wpAny_field ho hd (x:=.int k 0) rfl ?_);show wpAny _ _ (seqItems? (.ref t)>>=_) _ _ s;refine wB (wpAny_seqItems hot dt ?_);simp only[Int.toNat_natCast,hx];refine wB (wpAny_rule (wB (wpAny_setField ho hd (by simp) ?_)));show wpAny _ _ (newExc (.type "StopIteration") []>>=_) _ _ _;refine wB ?_;simp only[newExc,newTuple];refine wB (wpAny_newObj_type ?_ (by size_fits));refine wB (m:=firstArgMember _ _) (wpAny_of_eq (a:=Value.none) (by first | rfl | (simp only[firstArgMember];rfl)) ?_);refine wpAny_newObj_type ?_ (by size_fits);simp only[raiseNew];refine wB (wpAny_handled ?_);first | rw[show A.in1.handled=none from hh] | rw[hh]
  refine wB (wP (wpAny_throw ?_));exact q _ _ (((Heap.SameBut.update ..).extBut.push _).push _) ⟨_,Heap.get?_push_size _ rfl,rfl⟩
section
variable {prog:Program} {w:World} {A:Around} {E:VSP} {s:Shared} {z TI TO i1 i2 l1 l2:Addr} {k:Nat} {xs ys:Array Value} {J1 J2:Nat→Heap→Prop} {a b x y:Value}
structure ZAp (z TI TO i1 i2 l1 l2:Addr):Prop where
  z_:TI≠z∧TO≠z∧i1≠z∧i2≠z∧l1≠z∧l2≠z
  o_:TI≠TO∧i1≠TO∧i2≠TO∧l1≠TO∧l2≠TO
  i_:TI≠i1∧TI≠i2∧i1≠i2
  l_:l1≠i1∧l1≠i2∧l2≠i1∧l2≠i2
theorem aM {c:Addr} {h h':Heap} {b:Addr} {o:Obj} (e:Heap.SameBut b h h') (n:c≠b) (g:h.get? c=some o):h'.get? c=some o:=(e.2 c n).trans g
theorem mZ {Q:VSP} (D:ZAp z TI TO i1 i2 l1 l2) (R1:Drw prog w i1 l1 xs J1) (R2:Drw prog w i2 l2 ys J2) (hz:IsZip s.heap z TI TO .none) (hTI:IsPair s.heap TI (.ref i1) (.ref i2)) (hTO:IsPair s.heap TO a b)
 (h1:J1 k s.heap) (h2:J2 k s.heap) (hx:xs[k]?=some x) (hy:ys[k]?=some y)
 (hQ:∀ h',IsZip h' z TI TO (rawInt s.heap.objs.size)→IsPair h' TO x y→J1 (k+1) h'→J2 (k+1) h'→IsPair h' s.heap.objs.size x y→(∀ c o,c≠z→c≠TO→c≠i1→c≠i2→s.heap.get? c=some o→h'.get? c=some o)→Q (.ref s.heap.objs.size) {s with heap:=h'}) :
 wpAny (model prog w) A (Builtin.«zip.__next__» ⟨[.ref z],[]⟩) (fun fin s'=>∃ v,fin=.done (.ret v)∧Q v s') E s:=by
 obtain⟨z1,z2,z3,z4,z5,z6⟩:=D.z_;obtain⟨o1,o2,o3,o4,o5⟩:=D.o_;obtain⟨j1,j2,j3⟩:=D.i_;obtain⟨m1,m2,m3,m4⟩:=D.l_;show wpAny _ _ (field (.ref z) 2>>=_) _ _ _;refine wB (wpAny_field hz rfl (x:=.bool false) rfl ?_);show wpAny _ _ (field (.ref z) 3>>=_) _ _ _;refine wB (wpAny_field hz rfl (x:=.ref TI) rfl ?_);refine wB (wpAny_seqItems hTI rfl ?_);show wpAny _ _ (Builtin.SmallTypes.ownedTupleIsFree (.ref z)>>=_) _ _ _;refine wB ?_;unfold Builtin.SmallTypes.ownedTupleIsFree;refine wB (wpAny_field hz rfl (x:=.none) rfl (wP ?_));simp only[if_true];refine wB (wpAny_rule ?_);refine wB (wpAny_field hz rfl (x:=.ref TO) rfl ?_);refine wB (wpAny_setField_rec hz (by simp) fun g1 gz1 gs1=>?_);have gz1':IsZip g1 z TI TO .ellipsis:=gz1;refine wB ?_;simp only[List.zipIdx_cons,List.zipIdx_nil,List.forIn_cons,List.forIn_nil];refine wB (wB (wpAny_onRaise ?_));show wpAny _ _ (Builtin.SmallTypes.nextOf (.ref i1)>>=_) _ _ _;have J11:J1 k g1:=R1.ext k _ _ h1 (fun o e=>aM gs1 z3 e) (fun o e=>aM gs1 z5 e);refine wB (R1.item _ _ {s with heap:=g1} k x _ J11 hx fun g2 J12 gs2=>wP ?_);have t2:IsPair g2 TO a b:=aM gs2 (Ne.symm o2) (aM gs1 z2 hTO);refine wB (wpAny_seqItems t2 rfl ?_);refine wB (wpAny_updateSeq_pair t2 fun g3 t3 gs3=>?_);have t3':IsPair g3 TO x b:=t3;refine wB (wpAny_letGo (wP ?_));refine wB (wB (wpAny_onRaise ?_));show wpAny _ _ (Builtin.SmallTypes.nextOf (.ref i2)>>=_) _ _ _;have J23:J2 k g3:=R2.ext k _ _ h2 (fun o e=>aM gs3 o3 (aM gs2 (Ne.symm j3) (aM gs1 z4 e))) (fun o e=>aM gs3 o5 (aM gs2 m3 (aM gs1 z6 e)));refine wB (R2.item _ _ {s with heap:=g3} k y _ J23 hy fun g4 J24 gs4=>wP ?_);have t4:IsPair g4 TO x b:=aM gs4 (Ne.symm o3) t3';refine wB (wpAny_seqItems t4 rfl ?_);refine wB (wpAny_updateSeq_pair t4 fun g5 t5 gs5=>?_);have t5':IsPair g5 TO x y:=t5;refine wB (wpAny_letGo (wP (wP ?_)));refine wB (wpAny_seqItems t5' rfl ?_);refine wB (wpAny_newTuple ?_);have sz:g5.objs.size=s.heap.objs.size:=by rw[gs5.1,gs4.1,gs3.1,gs2.1,gs1.1]
 have zz5:IsZip g5 z TI TO .ellipsis:=aM gs5 (Ne.symm z2) (aM gs4 (Ne.symm z4) (aM gs3 (Ne.symm z2) (aM gs2 (Ne.symm z3) gz1')));have kp:∀ c o,c≠z→c≠TO→c≠i1→c≠i2→s.heap.get? c=some o→g5.get? c=some o:=fun c o c1 c2 c3 c4 e=>aM gs5 c2 (aM gs4 c4 (aM gs3 c2 (aM gs2 c3 (aM gs1 c1 e))));have J15:J1 (k+1) g5:=R1.ext _ _ _ J12 (fun o e=>aM gs5 o2 (aM gs4 j3 (aM gs3 o2 e))) (fun o e=>aM gs5 o4 (aM gs4 m2 (aM gs3 o4 e)));have J25:J2 (k+1) g5:=R2.ext _ _ _ J24 (fun o e=>aM gs5 o3 e) (fun o e=>aM gs5 o5 e);have lz:z<g5.objs.size:=Heap.lt_size zz5;show wpAny _ _ (Builtin.SmallTypes.ownedTupleHandOut (.ref z) (.ref g5.objs.size)>>=_) _ _ _;refine wB ?_;unfold Builtin.SmallTypes.ownedTupleHandOut;have zz6:IsZip (g5.push {cls:=.type "tuple",data:=.seq #[x,y]}) z TI TO .ellipsis:=hpS _ zz5;refine wB (wpAny_setField_rec zz6 (by simp) fun g7 zz7 gs7=>?_);have zz7':IsZip g7 z TI TO (rawInt g5.objs.size):=zz7;refine wpAny_setField_rec zz7' (by simp) fun g8 zz8 gs8=>?_;have zz8':IsZip g8 z TI TO (rawInt g5.objs.size):=zz8;have up:∀ c o,c≠z→g5.get? c=some o→g8.get? c=some o:=fun c o c1 e=>aM gs8 c1 (aM gs7 c1 (hpS _ e));have pT:IsPair g8 g5.objs.size x y:=aM gs8 (Nat.ne_of_gt lz) (aM gs7 (Nat.ne_of_gt lz) (Heap.get?_push_size _ rfl));rw[sz] at zz8' pT;refine wP ⟨_,rfl,?_⟩;show Q (.ref g5.objs.size) _;rw[sz];exact hQ g8 zz8' (up _ _ z2 t5') (R1.ext _ _ _ J15 (fun o e=>up _ o z3 e) fun o e=>up _ o z5 e) (R2.ext _ _ _ J25 (fun o e=>up _ o z4 e) fun o e=>up _ o z6 e) pT fun c o c1 c2 c3 c4 e=>up c o c1 (kp c o c1 c2 c3 c4 e)
theorem oI {Q:Fin→Shared→Prop} (hh:A.handled=none) (D:ZAp z TI TO i1 i2 l1 l2) (R1:Drw prog w i1 l1 xs J1) (R2:Drw prog w i2 l2 ys J2) (hz:IsZip s.heap z TI TO .none) (hTI:IsPair s.heap TI (.ref i1) (.ref i2)) (hTO:IsPair s.heap TO a b)
 (h1:J1 k s.heap) (h2:J2 k s.heap) (hend:xs[k]?=none∨ys[k]?=none)
 (hE:∀ h' e,(∀ c o,c≠z→c≠TO→c≠i1→c≠i2→s.heap.get? c=some o→h'.get? c=some o)→(∃ o,h'.get? e=some o∧o.cls=.type "StopIteration")→E (.ref e) {s with heap:=h'}) :
 wpAny (model prog w) A (Builtin.«zip.__next__» ⟨[.ref z],[]⟩) Q E s:=by
 obtain⟨z1,z2,z3,z4,z5,z6⟩:=D.z_;obtain⟨o1,o2,o3,o4,o5⟩:=D.o_;obtain⟨j1,j2,j3⟩:=D.i_;obtain⟨m1,m2,m3,m4⟩:=D.l_;show wpAny _ _ (field (.ref z) 2>>=_) _ _ _;refine wB (wpAny_field hz rfl (x:=.bool false) rfl ?_);show wpAny _ _ (field (.ref z) 3>>=_) _ _ _;refine wB (wpAny_field hz rfl (x:=.ref TI) rfl ?_);refine wB (wpAny_seqItems hTI rfl ?_);show wpAny _ _ (Builtin.SmallTypes.ownedTupleIsFree (.ref z)>>=_) _ _ _;refine wB ?_;unfold Builtin.SmallTypes.ownedTupleIsFree;refine wB (wpAny_field hz rfl (x:=.none) rfl (wP ?_));simp only[if_true];refine wB (wpAny_rule ?_);refine wB (wpAny_field hz rfl (x:=.ref TO) rfl ?_);refine wB (wpAny_setField_rec hz (by simp) fun g1 gz1 gs1=>?_);have gz1':IsZip g1 z TI TO .ellipsis:=gz1;refine wB ?_;simp only[List.zipIdx_cons,List.zipIdx_nil,List.forIn_cons,List.forIn_nil];refine wB (wB (wpAny_onRaise ?_));show wpAny _ _ (Builtin.SmallTypes.nextOf (.ref i1)>>=_) _ _ _;have J11:J1 k g1:=R1.ext k _ _ h1 (fun o e=>aM gs1 z3 e) (fun o e=>aM gs1 z5 e);cases hx:xs[k]? with
 | none =>
  refine wB (R1.stop _ _ {s with heap:=g1} k _ hh J11 hx fun g2 e gs2 he=>?_);obtain⟨oe,hoe,hce⟩:=he;have zz2:IsZip g2 z TI TO .ellipsis:=gs2 _ _ (Ne.symm z3) gz1';have ez:e≠z:=fun q=>by subst q;rw[zz2] at hoe;cases hoe;simp at hce
  refine wpAny_setField_rec zz2 (by simp) fun g3 _ gs3=>hE g3 e (fun c o c1 _ c3 _ q=>aM gs3 c1 (gs2 _ _ c3 (aM gs1 c1 q))) ⟨oe,aM gs3 ez hoe,hce⟩
 | some x =>
  have hy:ys[k]?=none:=hend.resolve_left (by rw[hx];simp);refine wB (R1.item _ _ {s with heap:=g1} k x _ J11 hx fun g2 J12 gs2=>wP ?_);have t2:IsPair g2 TO a b:=aM gs2 (Ne.symm o2) (aM gs1 z2 hTO);refine wB (wpAny_seqItems t2 rfl ?_);refine wB (wpAny_updateSeq_pair t2 fun g3 t3 gs3=>?_);refine wB (wpAny_letGo (wP ?_));refine wB (wB (wpAny_onRaise ?_));show wpAny _ _ (Builtin.SmallTypes.nextOf (.ref i2)>>=_) _ _ _;have J23:J2 k g3:=R2.ext k _ _ h2 (fun o e=>aM gs3 o3 (aM gs2 (Ne.symm j3) (aM gs1 z4 e))) (fun o e=>aM gs3 o5 (aM gs2 m3 (aM gs1 z6 e)));refine wB (R2.stop _ _ {s with heap:=g3} k _ hh J23 hy fun g4 e gs4 he=>?_);obtain⟨oe,hoe,hce⟩:=he;have zz4:IsZip g4 z TI TO .ellipsis:=gs4 _ _ (Ne.symm z4) (aM gs3 (Ne.symm z2) (aM gs2 (Ne.symm z3) gz1'));have ez:e≠z:=fun q=>by subst q;rw[zz4] at hoe;cases hoe;simp at hce
  refine wpAny_setField_rec zz4 (by simp) fun g5 _ gs5=>hE g5 e (fun c o c1 c2 c3 c4 q=>aM gs5 c1 (gs4 _ _ c4 (aM gs3 c2 (aM gs2 c3 (aM gs1 c1 q))))) ⟨oe,aM gs5 ez hoe,hce⟩
end
section
variable {X:Cx} {pins:AOs} {σ:St} {H:Hp} {s:Shared} {h2:Heap} {t':Nat} {ch:List Addr} {o:HO}
theorem Inv.turnedAll (I:Inv X pins σ H s) (hch:∀ b∈ch,iy X pins H b) (keep:∀ b u,b∉ch→s.heap.get? b=some u→h2.get? b=some u):Inv X pins σ H {s with heap:=h2,toks:=t'}:=by
 have nt:∀ {b:Addr} {u:HO},H b=some u→b∉ch:=fun {b u} q z=>by rw[(hch b z).1] at q;cases q
 refine I.step (g':=s.gens) (d':=s.drawn) (ch:=ch) (fun b hb=>⟨(hch b hb).2.2.2.1,(hch b hb).2.1,(hch b hb).2.2.2.2.1,(hch b hb).2.2.2.2.2⟩) (fun b u _ _ hc z _=>keep b u hc z) (fun b u _ _ hc z _=>⟨u.slots,keep b u hc z⟩) (fun _ _ _ _ n=>n)
  (fun b u hc z=>⟨u,keep b u hc z⟩) (fun _ _ z=>z) (fun _ _ _ z=>z) (fun b ps z=>⟨#[],by rw[z];simp⟩) (fun m hm=>?_) (fun b u z=>?_) I.bare
 · obtain⟨o,es,ep,ho,r⟩:=hm;exact⟨o,es,ep,keep _ o (fun z=>(hch _ z).2.1 rfl) ho,r⟩
 · refine (I.hok b u z).stay (fun c v hc zc=>keep c v ?_ zc) (fun _ q=>q) fun _ _ q=>q
   rcases hc with rfl | hc
   · exact nt z
   · exact nt hc
theorem Inv.turnedNew (I:Inv X pins σ H s) (hch:∀ b∈ch,iy X pins H b) (keep:∀ b u,b∉ch→s.heap.get? b=some u→h2.get? b=some u) (new:bj X.prog X.w (upd H s.heap.objs.size o) h2 s.heap.objs.size o) :
 Inv X pins σ (upd H s.heap.objs.size o) {s with heap:=h2,toks:=t'}:=by
 have hfr:H s.heap.objs.size=none:=I.hok.fresh (Nat.le_refl _);have nt:∀ {b:Addr} {u:HO},H b=some u→b∉ch:=fun {b u} q z=>by rw[(hch b z).1] at q;cases q
 have nd:∀ {b:Addr} {u:HO},H b=some u→b≠s.heap.objs.size:=fun {b u} q z=>by rw[z,hfr] at q;cases q
 refine I.step (g':=s.gens) (d':=s.drawn) (ch:=ch) (fun b hb=>⟨(hch b hb).2.2.2.1,(hch b hb).2.1,(hch b hb).2.2.2.2.1,(hch b hb).2.2.2.2.2⟩) (fun b u _ _ hc z _=>keep b u hc z) (fun b u _ _ hc z _=>⟨u.slots,keep b u hc z⟩) (fun b u _ z n=>by rw[a9 (Nat.ne_of_lt (Heap.lt_size z))];exact n)
  (fun b u hc z=>⟨u,keep b u hc z⟩) (fun b xs z=>by rw[a9 (nd z)];exact z) (fun b u v z=>by rw[a9 (nd z)];exact z) (fun b ps z=>⟨#[],by rw[a9 (nd z),z];simp⟩) (fun m hm=>?_) (fun b u z=>?_) I.bare
 · obtain⟨o,es,ep,ho,r⟩:=hm;exact⟨o,es,ep,keep _ o (fun z=>(hch _ z).2.1 rfl) ho,r⟩
 · by_cases hb:b=s.heap.objs.size
   · rw[hb,pG] at z;cases z;rw[hb];exact new
   · rw[a9 hb] at z;refine (I.hok b u z).stay (fun c v hc zc=>keep c v ?_ zc) (fun c zc=>by rw[a9 (nd zc)];exact zc) fun c xs zc=>by rw[a9 (nd zc)];exact zc
     rcases hc with rfl | hc
     · exact nt z
     · exact nt hc
end
theorem cL {h:Heap} {a b:Addr} {oa ob:Obj} (ha:h.get? a=some oa) (hb:h.get? b=some ob) (hc:oa.cls≠ob.cls):a≠b:=fun z=>by
 rw[z,hb] at ha;cases ha;exact hc rfl
theorem qJ:bootBuiltins "zip"=some (.type "zip"):=by decide +kernel
section
variable {prog:Program} {w:World} {A:Around} {E:VSP} {s:Shared} {z TI TO i1 i2 l1 l2:Addr} {k:Nat} {xs ys:Array Value} {J1 J2:Nat→Heap→Prop} {a b x y:Value}
theorem lB {Q:Option Value→Shared→Prop} (D:ZAp z TI TO i1 i2 l1 l2) (R1:Drw prog w i1 l1 xs J1) (R2:Drw prog w i2 l2 ys J2) (hz:IsZip s.heap z TI TO .none) (hTI:IsPair s.heap TI (.ref i1) (.ref i2)) (hTO:IsPair s.heap TO a b)
 (h1:J1 k s.heap) (h2:J2 k s.heap) (hx:xs[k]?=some x) (hy:ys[k]?=some y)
 (hQ:∀ h',IsZip h' z TI TO (rawInt s.heap.objs.size)→IsPair h' TO x y→J1 (k+1) h'→J2 (k+1) h'→IsPair h' s.heap.objs.size x y→(∀ c o,c≠z→c≠TO→c≠i1→c≠i2→s.heap.get? c=some o→h'.get? c=some o)→Q (some (.ref s.heap.objs.size)) {s with heap:=h'}) :
 wpAny (model prog w) A (pyNext (.ref z)) Q E s:=by
 have ty:s.TypeIs (.ref z) "zip":=⟨_,hz,rfl⟩;unfold pyNext;exact wB (wpAny_attempt (wpAny_callSpecial?_slot (name:=Str.ofString "__next__") ty F.slot_zip_next (wpAny_call_entry F.slot_zip_next ty F.entry_zip_next (mZ D R1 R2 hz hTI hTO h1 h2 hx hy fun h' a1 a2 a3 a4 a5 a6=>wP (hQ h' a1 a2 a3 a4 a5 a6)) (F.args_zip_next_1 _))))
theorem nM {Q:Option Value→Shared→Prop} (hh:A.handled=none) (D:ZAp z TI TO i1 i2 l1 l2) (R1:Drw prog w i1 l1 xs J1) (R2:Drw prog w i2 l2 ys J2) (hz:IsZip s.heap z TI TO .none) (hTI:IsPair s.heap TI (.ref i1) (.ref i2)) (hTO:IsPair s.heap TO a b)
 (h1:J1 k s.heap) (h2:J2 k s.heap) (hend:xs[k]?=none∨ys[k]?=none)
 (hQ:∀ h',(∀ c o,c≠z→c≠TO→c≠i1→c≠i2→s.heap.get? c=some o→h'.get? c=some o)→Q none {s with heap:=h'}):wpAny (model prog w) A (pyNext (.ref z)) Q E s:=by
 have ty:s.TypeIs (.ref z) "zip":=⟨_,hz,rfl⟩;unfold pyNext;refine wB (wpAny_attempt (wpAny_callSpecial?_slot (name:=Str.ofString "__next__") ty F.slot_zip_next (wpAny_call_entry F.slot_zip_next ty F.entry_zip_next (oI hh D R1 R2 hz hTI hTO h1 h2 hend fun h' e hk he=>?_) (F.args_zip_next_1 _))));obtain⟨o,ho,hc⟩:=he;exact wB (wpAny_isInstance (T:="StopIteration") (b:=true) ⟨o,ho,hc⟩ isSubtype_stop (wP (hQ _ hk)))
end
abbrev zt1 (h:Heap) (a:Addr):Heap:=h.push {cls:=.type "tuple_iterator",data:=.fields #[.ref a,.int 0 0]}
abbrev zt2 (h:Heap) (a b:Addr):Heap:=zt1 (zt1 h a) b
abbrev zt3 (h:Heap) (a b:Addr):Heap:=(zt2 h a b).push {cls:=.type "tuple",data:=.seq #[.ref h.objs.size,.ref (zt1 h a).objs.size]}
abbrev zt4 (h:Heap) (a b:Addr):Heap:=(zt3 h a b).push {cls:=.type "tuple",data:=.seq #[.none,.none]}
abbrev zt5 (h:Heap) (a b:Addr):Heap:=(zt4 h a b).push {cls:=.type "zip",data:=.fields #[.none,.bool false,.bool false,.ref (zt2 h a b).objs.size,.ref (zt3 h a b).objs.size]}
theorem lE (a b:Addr) (xs ys:Array Value):Meets (Builtin.«zip.__new__» ⟨[.type "zip",.ref a,.ref b],[]⟩) (fun _ R s=>s.heap.IsTuple a xs∧s.heap.IsTuple b ys∧R (.ok (.ret (.ref (zt4 s.heap a b).objs.size))) {s with heap:=zt5 s.heap a b}) :=
 .of_wp fun prog w A R s h=>by
  obtain⟨hp,g,d,tk,os⟩:=s;obtain⟨ha,hb,h⟩:=h;have sub:=sub_zip;have e1:Heap.IsTuple (Shared.heap ⟨hp,g,d,tk,os⟩) a xs:=ha;have e2:Heap.IsTuple (Shared.heap ⟨zt1 hp a,g,d,tk,os⟩) b ys:=Heap.IsTuple.push hb _
  wp_walk using wpAny_pyIter_tuple e1,wpAny_pyIter_tuple e2
  exact⟨_,rfl,h⟩
theorem oj {prog:Program} {w:World} {A:Around} {E:VSP} {s:Shared} {a b:Addr} {xs ys:Array Value} {Q:VSP} (ha:s.heap.IsTuple a xs) (hb:s.heap.IsTuple b ys)
 (h:∀ h',IsZip h' (s.heap.objs.size+4) (s.heap.objs.size+2) (s.heap.objs.size+3) .none→IsPair h' (s.heap.objs.size+2) (.ref s.heap.objs.size) (.ref (s.heap.objs.size+1))→IsPair h' (s.heap.objs.size+3) .none .none →
   h'.IsTupleIter s.heap.objs.size a 0→h'.IsTupleIter (s.heap.objs.size+1) b 0→(∀ c o,s.heap.get? c=some o→h'.get? c=some o)→Q (.ref (s.heap.objs.size+4)) {s with heap:=h'}) :
 wpAny (model prog w) A (call (.type "zip") [.ref a,.ref b]) Q E s:=by
 refine callType_new F.called_zip (by decide) (F.typeCall_zip_2 _ _) (F.newCall_zip_2 _ _) (fun obj=>F.args_object_init_3 obj _ _) F.entry_zip_new (lE a b xs ys) ⟨ha,hb,?_⟩;have z1:(zt1 s.heap a).objs.size=s.heap.objs.size+1:=Heap.size_push ..;have z2:(zt2 s.heap a b).objs.size=s.heap.objs.size+2:=by rw[Heap.size_push,z1]
 have z3:(zt3 s.heap a b).objs.size=s.heap.objs.size+3:=by rw[Heap.size_push,z2]
 have z4:(zt4 s.heap a b).objs.size=s.heap.objs.size+4:=by rw[Heap.size_push,z3]
 have up:∀ {c:Addr} {o:Obj},(zt1 s.heap a).get? c=some o→(zt5 s.heap a b).get? c=some o:=fun e=>hpS _ (hpS _ (hpS _ (hpS _ e)));have g5:(zt5 s.heap a b).get? (zt4 s.heap a b).objs.size=some _:=Heap.get?_push_size _ rfl;have g4:(zt5 s.heap a b).get? (zt3 s.heap a b).objs.size=some _:=hpS _ (Heap.get?_push_size _ rfl);have g3:(zt5 s.heap a b).get? (zt2 s.heap a b).objs.size=some _:=hpS _ (hpS _ (Heap.get?_push_size _ rfl));have g2:(zt5 s.heap a b).get? (zt1 s.heap a).objs.size=some _:=hpS _ (hpS _ (hpS _ (Heap.get?_push_size _ rfl)));have g1:(zt5 s.heap a b).get? s.heap.objs.size=some _:=up (Heap.get?_push_size _ rfl);show _∧_;rw[z2,z3,z4] at g5;rw[z1,z2] at g3;rw[z3] at g4;rw[z1] at g2;rw[z4];exact⟨⟨_,g5,rfl⟩,h _ g5 g3 g4 ⟨_,g1,rfl,rfl⟩ ⟨_,g2,rfl,rfl⟩ fun c o e=>up (hpS _ e)⟩
def rm (K:Fg) (a b:Addr):It :=
  ⟨fun i H=>∃ xs ys x y,SqT K H a xs∧SqT K H b ys∧xs[i]?=some x∧ys[i]?=some y,fun i H v H'=>∃ t x y,v=.ref t∧H t=none∧H'=upd H t (.tup [x,y])∧(∀ xs,SqT K H a xs→xs[i]?=some x)∧∀ ys,SqT K H b ys→ys[i]?=some y,
    fun i H=>∃ xs ys,SqT K H a xs∧SqT K H b ys∧(xs.length≤i∨ys.length≤i)⟩
theorem nu {P:Program} {w:World} {K:Fg} {elts:List Expr} {k} {pos:Pos} (a b z TI TO i1 i2:Addr) (h0:z≠TI∧z≠TO∧z≠i1∧z≠i2∧TI≠TO∧TI≠i1∧TI≠i2∧TO≠i1∧TO≠i2∧i1≠i2) (hab:a≠TO∧b≠TO) :
 lX P w K (.Tuple elts k pos) (rm K a b) [z,TI,TO,i1,i2] z (fun i h=>IsZip h z TI TO .none∧IsPair h TI (.ref i1) (.ref i2)∧(∃ u v,IsPair h TO u v)∧h.IsTupleIter i1 a i∧h.IsTupleIter i2 b i) where
 mem:=by simp
 obj:=fun i h st c hc=>by
  obtain⟨h1,h2,⟨u,v,h3⟩,⟨o4,h4,_,d4⟩,⟨o5,h5,_,d5⟩⟩:=st;simp only[List.mem_cons,nMN,or_false] at hc
  rcases hc with rfl | rfl | rfl | rfl | rfl
  · exact⟨_,h1,fun v z=>by cases z⟩
  · exact⟨_,h2,fun v z=>by cases z⟩
  · exact⟨_,h3,fun v z=>by cases z⟩
  · exact⟨_,h4,fun v z=>by rw[d4] at z;cases z⟩
  · exact⟨_,h5,fun v z=>by rw[d5] at z;cases z⟩
 keep:=fun i h h' st k=>by
  obtain⟨h1,h2,⟨u,v,h3⟩,⟨o4,h4,r4⟩,⟨o5,h5,r5⟩⟩:=st;exact⟨k z (by simp) _ h1,k TI (by simp) _ h2,⟨u,v,k TO (by simp) _ h3⟩,⟨o4,k i1 (by simp) _ h4,r4⟩,⟨o5,k i2 (by simp) _ h5,r5⟩⟩
 item:=by
  intro X hP hw hK hc i pins s σ H E I hf st hg;subst hP hw hK;obtain⟨xs,ys,x,y,hqx,hqy,hx,hy⟩:=hg;obtain⟨its,rv,p,hz⟩:=I.tuple hqx;obtain⟨its2,rv2,p2,hz2⟩:=I.tuple hqy;obtain⟨u,hu,ru⟩:=rv.get hx;obtain⟨v,hv,rv'⟩:=rv2.get hy;obtain⟨h1,h2,⟨u0,v0,h3⟩,h4,h5⟩:=st;obtain⟨n1,n2,n3,n4,n5,n6,n7,n8,n9,n10⟩:=h0;obtain⟨ol,hol,hcl,_⟩:=id p;obtain⟨ol2,hol2,hcl2,_⟩:=id p2;obtain⟨o4,g4,c4,d4⟩:=id h4;obtain⟨o5,g5,c5,d5⟩:=id h5;have D:ZAp z TI TO i1 i2 a b:=⟨⟨n1.symm,n2.symm,n3.symm,n4.symm,cL hol h1 (by rw[hcl];simp),cL hol2 h1 (by rw[hcl2];simp)⟩,⟨n5,n8.symm,n9.symm,hab.1,hab.2⟩,⟨n6,n7,n10⟩,
    ⟨cL hol g4 (by rw[hcl,c4];simp),cL hol g5 (by rw[hcl,c5];simp),cL hol2 g4 (by rw[hcl2,c4];simp),cL hol2 g5 (by rw[hcl2,c5];simp)⟩⟩
  refine lB D (eD i1 a D.l_.1 its.toArray) (eD i2 b D.l_.2.2.2 its2.toArray) h1 h2 h3 ⟨h4,p⟩ ⟨h5,p2⟩ (x:=u) (y:=v) (by simpa using hu) (by simpa using hv) fun h' e1 e2 e3 e4 e5 e7=>?_;refine⟨_,rfl,wpAny_letOwnedTupleGo_zip (s:={s with heap:=h'}) e1 fun h'' f1 sb=>?_⟩;have lz:z<s.heap.objs.size:=Heap.lt_size h1;have keep:∀ c o,c∉[z,TI,TO,i1,i2]→s.heap.get? c=some o→h''.get? c=some o:=fun c o hc q=>by
   simp only[List.mem_cons,nMN,or_false,not_or] at hc;exact (sb.2 c hc.1).trans (e7 c o hc.1 hc.2.2.1 hc.2.2.2.1 hc.2.2.2.2 q)
  have hT:h''.get? s.heap.objs.size=some {cls:=.type "tuple",data:=.seq #[u,v]}:=(sb.2 _ (Nat.ne_of_gt lz)).trans e5;have I2:Inv X pins σ (upd H s.heap.objs.size (.tup [x,y])) {s with heap:=h''}:=I.turnedNew (t':=s.toks) hf keep ⟨gu,[u,v],.cons ru (.cons rv' .nil),⟨_,hT,rfl,_,rfl⟩⟩;refine⟨.ref s.heap.objs.size,_,I2,rfl,⟨_,x,y,rfl,I.hok.fresh (Nat.le_refl _),rfl,fun q hq=>by rw[I.tuple_inj hq hqx];exact hx,fun q hq=>by rw[I.tuple_inj hq hqy];exact hy⟩,⟨f1,?_,⟨u,v,(sb.2 TO D.z_.2.1).trans e2⟩,?_,?_⟩,fun c hc=>?_⟩
  · exact (sb.2 TI D.z_.1).trans (e7 TI _ D.z_.1 D.o_.1 D.i_.1 D.i_.2.1 h2)
  · obtain⟨⟨o,q,r⟩,_⟩:=e3;exact⟨o,(sb.2 i1 D.z_.2.2.1).trans q,r⟩
  · obtain⟨⟨o,q,r⟩,_⟩:=e4;exact⟨o,(sb.2 i2 D.z_.2.2.2.1).trans q,r⟩
  · have hlt:c<s.heap.objs.size:=by
     simp only[List.mem_cons,nMN,or_false] at hc
     rcases hc with rfl | rfl | rfl | rfl | rfl
     · exact lz
     · exact Heap.lt_size h2
     · exact Heap.lt_size h3
     · exact Heap.lt_size g4
     · exact Heap.lt_size g5
    rw[a9 (Nat.ne_of_lt hlt)];exact (hf c hc).1
 done:=by
  intro X hP hw hK hc i pins s σ H E I hf st hg;subst hP hw hK;obtain⟨xs,ys,hqx,hqy,hlen⟩:=hg;obtain⟨its,rv,p,hz⟩:=I.tuple hqx;obtain⟨its2,rv2,p2,hz2⟩:=I.tuple hqy;obtain⟨h1,h2,⟨u0,v0,h3⟩,h4,h5⟩:=st;obtain⟨n1,n2,n3,n4,n5,n6,n7,n8,n9,n10⟩:=h0;obtain⟨ol,hol,hcl,_⟩:=id p;obtain⟨ol2,hol2,hcl2,_⟩:=id p2;obtain⟨o4,g4,c4,d4⟩:=id h4;obtain⟨o5,g5,c5,d5⟩:=id h5;have D:ZAp z TI TO i1 i2 a b:=⟨⟨n1.symm,n2.symm,n3.symm,n4.symm,cL hol h1 (by rw[hcl];simp),cL hol2 h1 (by rw[hcl2];simp)⟩,⟨n5,n8.symm,n9.symm,hab.1,hab.2⟩,⟨n6,n7,n10⟩,
    ⟨cL hol g4 (by rw[hcl,c4];simp),cL hol g5 (by rw[hcl,c5];simp),cL hol2 g4 (by rw[hcl2,c4];simp),cL hol2 g5 (by rw[hcl2,c5];simp)⟩⟩
  have e1:=rv.length;have e2:=rv2.length;refine nM (I.ok.hd hc) D (eD i1 a D.l_.1 its.toArray) (eD i2 b D.l_.2.2.2 its2.toArray) h1 h2 h3 ⟨h4,p⟩ ⟨h5,p2⟩ (hlen.imp (fun q=>by simp;lia) fun q=>by simp;lia) fun h' kp=>⟨rfl,I.turnedAll (t':=s.toks) hf fun c o hc q=>?_⟩;simp only[List.mem_cons,nMN,or_false,not_or] at hc;exact kp c o hc.1 hc.2.2.1 hc.2.2.2.1 hc.2.2.2.2 q
 self:=fun _ _ _ _ _ st h=>wpAny_pyIter_zip st.1 h
def zX (K:Fg) (ta:TA):TI:=fun σ H R=>ta σ H fun vs H1=>∃ a b xs ys,vs=[.ref a,.ref b]∧SqT K H1 a xs∧SqT K H1 b ys∧R (rm K a b) H1
theorem gG {X:Cx} {elts:List Expr} {k} {tpos:Pos} {e1 e2:Expr} {ta:TA} {p pos:Pos} (hg:Gl X "zip") (hm:X.mg "zip"=none) (ha:PA X [e1,e2] ta) (hs:starEach [e1,e2] X.env=[(false,eval e1 X.env),(false,eval e2 X.env)]:=by rfl) (hs2:starEach [e2] X.env=[(false,eval e2 X.env)]:=by rfl) :
 PI X (.Tuple elts k tpos) (.Call (.Name "zip" p) [e1,e2] [] pos) (zX X.K ta):=by
 intro pins s σ H R I h;refine Call_ (cW I hg hm qJ (PyProof.Rows.callWith_type1 (thn (ha pos pins s σ H _ I h) fun us s1 zy16=>?_) (by rw[hs,hs2]) (by rw[hs2];rfl)));obtain⟨vs,H1,I1,r1,q1⟩:=zy16;obtain⟨a,b,xs,ys,e,hqx,hqy,q⟩:=q1;subst e;obtain⟨u,v,rfl,ru,rv⟩:=r1.two;cases ru;cases rv;obtain⟨its,rv,p1,hz⟩:=I1.tuple hqx;obtain⟨its2,rv2,p2,hz2⟩:=I1.tuple hqy;have la:a<s1.heap.objs.size:=by obtain⟨o,e,_⟩:=id p1;exact Heap.lt_size e
 have lb:b<s1.heap.objs.size:=by obtain⟨o,e,_⟩:=id p2;exact Heap.lt_size e
 refine oj p1 p2 fun h' f1 f2 f3 f4 f5 f7=>?_;refine wpAny_pyIter_zip f1 ?_;have I2:Inv X pins σ H1 {s1 with heap:=h'}:=I1.kept (t':=s1.toks) f7;generalize hn:s1.heap.objs.size=n at f1 f2 f3 f4 f5 la lb;refine⟨n+4,[n+4,n+2,n+3,n,n+1],_,rm X.K a b,H1,rfl,I2,nu a b (n+4) (n+2) (n+3) n (n+1) (by refine⟨?_,?_,?_,?_,?_,?_,?_,?_,?_,?_⟩ <;> (intro z;have z':(_:Nat)=_:=z;lia)) ⟨Nat.ne_of_lt (Nat.lt_add_right 3 la),Nat.ne_of_lt (Nat.lt_add_right 3 lb)⟩,⟨f1,f2,⟨_,_,f3⟩,f4,f5⟩,fun c hc=>?_,q⟩;have hc':s1.heap.objs.size≤c:=by
  rw[hn];simp only[List.mem_cons,nMN,or_false] at hc
  rcases hc with rfl | rfl | rfl | rfl | rfl
  · exact Nat.le_add_right _ _
  · exact Nat.le_add_right _ _
  · exact Nat.le_add_right _ _
  · exact Nat.le_refl _
  · exact Nat.le_add_right _ _
 exact I1.fpOk hc' (I1.hok.fresh hc')
theorem cg {X:Cx} {p pos:Pos} {e:Expr} {es:List Expr} {t:TA} (hm:X.mg "tuple"=none) (ha:PA X (e::es) t) (hg:Gl X "tuple":=by rfl)
 (he:starEach (e::es) X.env=(false,eval e X.env)::starEach es X.env:=by rfl) (hpl:(backTo pos (starEach es X.env)).any (·.1)=false:=by rfl) :
 PE X (.Call (.Name "tuple" p) (e::es) [] pos) (tCB (pU X.K) t):=ej iI hg hm cw ha (he:=he) (hpl:=hpl)
theorem cK (xs:List V) (k:Nat):fi xs (some ((k:Nat):Int)) none=xs.drop k:=by
 unfold fi;rw[HT.pq,HT.jm];by_cases h:k≤xs.length
 · rw[Nat.min_eq_left h,List.take_of_length_le (by rw[List.length_drop];exact Nat.le_refl _)]
 · rw[Nat.min_eq_right (by lia),List.drop_of_length_le (Nat.le_refl _),List.drop_of_length_le (by lia)];exact List.take_nil
theorem aw.zipT {K:Fg} {a b:Addr} {xs ys:List V} {g:TG} {tb:TS} {D:eO} {σ:St} {H:Hp} (hlen:xs.length=ys.length) (Pv:Nat→St→Hp→Prop) (h0:Pv 0 σ H) (hl:∀ i σ H,i≤xs.length→Pv i σ H→SqT K H a xs∧SqT K H b ys)
 (hs:∀ i x y σ H t,xs[i]?=some x→ys[i]?=some y→Pv i σ H→H t=none→g (.ref t) σ (upd H t (.tup [x,y])) fun σ2 H2=>tb {D with nx:=Pv (i+1),ct:=Pv (i+1),bk:=D.nx} σ2 H2) (hd:∀ σ H,Pv xs.length σ H→D.nx σ H):aw (rm K a b) g tb D σ H:=by
 refine⟨fun i m σ H=>i≤xs.length∧m=xs.length-i∧Pv i σ H,⟨_,Nat.zero_le _,rfl,h0⟩,fun i m σ H z=>?_⟩;obtain⟨hi,hm,hp⟩:=z;obtain⟨l1,l2⟩:=hl i σ H hi hp;by_cases hlt:i<xs.length
 · have hlt2:i<ys.length:=by lia
   refine .inr ⟨⟨xs,ys,xs[i],ys[i],l1,l2,by simp[hlt],by simp[hlt2]⟩,fun σ' H'=>Pv (i+1) σ' H',fun σ' H' q=>⟨xs.length-(i+1),by rw[hm];exact Nat.sub_succ_lt_self _ _ hlt,hlt,rfl,q⟩,?_⟩;rintro v H' ⟨t,x,y,rfl,ht,rfl,hx,hy⟩;exact hs i x y σ H t (hx xs l1) (hy ys l2) hp ht
 · have:i=xs.length:=by lia
   subst this;exact .inl ⟨⟨xs,ys,l1,l2,.inl (Nat.le_refl _)⟩,hd σ H hp⟩
theorem pK {c A B:Prop} [Decidable c] (h:¬ c) (b:B):if c then A else B:=by rw[if_neg h];exact b
theorem pL {c A B:Prop} [Decidable c] (h:c) (a:A):if c then A else B:=by rw[if_pos h];exact a
theorem cU.units65 {k:Nat} {A:Around} (r:cU k A):A.units+65<cLine:=by have:=r.un;lia
theorem aw.zipTN {K:Fg} {a b:Addr} {xs ys:List V} {g:TG} {tb:TS} {d:St→Hp→Prop} {r:VK} {k c:St→Hp→Prop} {σ:St} {H:Hp} (hlen:xs.length=ys.length) (Pv:Nat→St→Hp→Prop) (h0:Pv 0 σ H) (hl:∀ i σ H,i≤xs.length→Pv i σ H→SqT K H a xs∧SqT K H b ys)
 (hs:∀ i x y σ H t (N B:St→Hp→Prop),(∀ σ' H',Pv (i+1) σ' H'→N σ' H')→xs[i]?=some x→ys[i]?=some y→Pv i σ H→H t=none→g (.ref t) σ (upd H t (.tup [x,y])) fun σ2 H2=>tb ⟨N,r,B,N⟩ σ2 H2) (hd:∀ σ H,Pv xs.length σ H→d σ H):aw (rm K a b) g tb ⟨d,r,k,c⟩ σ H :=
 aw.zipT hlen Pv h0 hl (fun i x y σ H t h1 h2 h3 h4=>hs i x y σ H t _ _ (fun _ _ z=>z) h1 h2 h3 h4) hd
end L2
namespace HT
open PySem PySem.Spec PyProof.Rows
section
variable {prog:Program} {w:World} {A:Around} {E:VSP} {s:Shared}
theorem eL {t sl:Addr} {aA:Array Value} {vl vu:Value} {lo hi:Option Int} {Q:VSP} (ht:IsTup s.heap t aA) (hs:s.heap.IsSliceOf sl vl vu .none) (pl:IsPart vl lo) (pu:IsPart vu hi)
 (hw:sIx aA.size 0 lo=0∧sIx aA.size aA.size hi=aA.size) (h:Q (.ref t) s):wpAny (model prog w) A (getItem (.ref t) (.ref sl)) Q E s:=by
 obtain⟨os,hos,hcs,hds⟩:=id hs;have hTs:s.TypeIs (.ref sl) "slice":=⟨os,hos,hcs⟩;unfold getItem
 try with_reducible refine wpAny_holding ?_
 first | refine wB (wP ?_) | skip
 refine wB (wpAny_sequenceKey ht.typeIs (by decide) ?_);refine wB (wpAny_callSpecial?_slot (name:=Str.ofString "__getitem__") ht.typeIs PyProof.Rows.slot_tuple_getitem
   (wpAny_call_entry PyProof.Rows.slot_tuple_getitem ht.typeIs entry_tuple_getitem ?_ (args_tuple_getitem _ _)))
 show wpAny _ _ (Builtin.Tuple.tupleItemsOf (.ref t)>>=_) _ _ s;refine wB (tupleItemsOf_ ht ?_);refine wB (wpAny_typeOf hTs ?_);rw[if_pos (by decide)];refine wB (dq hs pl pu ?_);have hyes:((((sIx aA.size 0 lo:Nat):Int)==0&&(1:Int)==1&&(sIx aA.size aA.size hi-sIx aA.size 0 lo)==aA.size)=true):=by
  rw[hw.1,hw.2];simp
 show wpAny _ _ (if (((sIx aA.size 0 lo:Nat):Int)==0&&(1:Int)==1&&(sIx aA.size aA.size hi-sIx aA.size 0 lo)==aA.size)=true then _ else _) _ _ s;rw[if_pos hyes];unfold Builtin.Tuple.tupleIsExact;refine wB (wB (wpAny_typeOf ht.typeIs (wP ?_)));rw[if_pos (by decide)];exact wB (wpAny_rule (wP ⟨_,rfl,wP h⟩))
end
end HT
namespace L2
open PySem PySem.Spec PyProof.Rows
section
variable {X:Cx}
def yH (K:Fg):V→Option Int→Option Int→Hp→VK→Prop:=fun x lo hi H Q=>∃ a xs,x=.ref a∧SqT K H a xs ∧
  (fi xs lo hi=xs→Q (.ref a) H)∧∀ p,H p=none→Q (.ref p) (upd H p (.tup (fi xs lo hi)))
theorem rO:SlR X (yH X.K):=by
 intro pins s σ H x v vl vu lo hi sl Q I rx hs pl pu h;obtain⟨a,xs,rfl,hx,q1,q2⟩:=h;by_cases hw:HT.sIx xs.length 0 lo=0∧HT.sIx xs.length xs.length hi=xs.length
 · cases rx;obtain⟨its,r,ht,hz⟩:=I.tuple hx;have hlen:its.toArray.size=xs.length:=by rw[List.size_toArray];exact r.length.symm
   refine⟨"tuple",_,PyProof.Rows.slot_tuple_getitem.lookup,ht.typeIs,?_⟩;refine HT.eL ht hs pl pu (by rw[hlen];exact hw) ⟨.ref a,H,I,rfl,q1 ?_⟩;unfold fi;rw[hw.1,hw.2];simp
 · exact eY pins s σ H _ v vl vu lo hi sl Q I rx hs pl pu ⟨a,xs,rfl,hx,hw,q2⟩
end
end L2
namespace L2
theorem qO {x a b:Nat} (h:x<a:=by with_reducible assumption) (e:Nat.ble a b=true:=by decide):x<b:=Nat.lt_of_lt_of_le h (Nat.le_of_ble_eq_true e)
theorem ix {x a b:Nat} (h:x≤a:=by with_reducible assumption) (e:Nat.ble a b=true:=by decide):x≤b:=Nat.le_trans h (Nat.le_of_ble_eq_true e)
theorem oz {x a b:Nat} (h:x≤a:=by with_reducible assumption) (e:Nat.blt a b=true:=by decide):x<b:=Nat.lt_of_le_of_lt h (Nat.le_of_ble_eq_true e)
theorem b_n {N C b:Nat} (h:N+C<b:=by with_reducible assumption):N<b:=Nat.lt_of_le_of_lt (Nat.le_add_right N C) h
theorem qN {N C b:Nat} (a:Nat) (h:N+C<b:=by with_reducible assumption) (e:Nat.ble a C=true:=by decide):N+a<b:=Nat.lt_of_le_of_lt (Nat.add_le_add_left (Nat.le_of_ble_eq_true e) N) h
theorem b_c {N c C b:Nat} (h:N+c+C<b:=by with_reducible assumption):N<b:=b_n (b_n h)
theorem cS {N c C b:Nat} (a:Nat) (h:N+c+C<b:=by with_reducible assumption) (e:Nat.ble a C=true:=by decide):N+a<b:=Nat.lt_of_le_of_lt (by rw[Nat.add_assoc];exact Nat.add_le_add_left (Nat.le_trans (Nat.le_of_ble_eq_true e) (Nat.le_add_left C c)) N) h
theorem b_u {n a b:Nat} (k:Nat) (h:n<a:=by with_reducible assumption) (e:Nat.ble (a+k) b=true:=by decide):n+k<b:=Nat.lt_of_lt_of_le (Nat.add_lt_add_right h k) (Nat.le_of_ble_eq_true e)
theorem b_v {n a b:Nat} (k:Nat) (h:n<a:=by with_reducible assumption) (e:Nat.ble (a+k) (b+1)=true:=by decide):n+k≤b:=Nat.le_of_lt_succ (b_u k h e)
theorem eM {N a C:Nat} (e:Nat.ble a C=true:=by decide):N+a≤N+C:=Nat.add_le_add_left (Nat.le_of_ble_eq_true e) N
theorem b_j {j n:Nat} (h:(j:Int)<(n:Int):=by with_reducible assumption):j<n:=Int.ofNat_lt.mp h
theorem b_z {n:Nat} (h:0<n:=by with_reducible assumption):(0:Int)<(n:Int):=Int.ofNat_lt.mpr h
theorem b_q {x y a b:Nat} (h:x=y:=by with_reducible assumption) (h2:y≤a:=by with_reducible assumption) (e:Nat.ble a b=true:=by decide):x≤b:=h▸ix h2 e
theorem b_i {j b:Nat} {a:Int} (k:Nat) (h:(j:Int)<a:=by with_reducible assumption) (e:decide ((k:Int)+a≤(b:Int)+1)=true:=by decide):k+j≤b:=by have:=of_decide_eq_true e;lia
theorem CZ {j b:Nat} {a:Int} (k:Nat) (h:(j:Int)<a:=by with_reducible assumption) (e:decide ((k:Int)+a≤(b:Int))=true:=by decide):k+j<b:=by have:=of_decide_eq_true e;lia
theorem b_k {k a b:Int} (h:k<a:=by with_reducible assumption) (e:decide (a≤b)=true:=by decide):k<b:=Int.lt_of_lt_of_le h (of_decide_eq_true e)
theorem AM {k a b:Int} (c:Int) (h:k<a:=by with_reducible assumption) (e:decide (a+c≤b)=true:=by decide):k+c<b:=Int.lt_of_lt_of_le (Int.add_lt_add_right h c) (of_decide_eq_true e)
theorem CY {k a b:Int} (h:k≤a:=by with_reducible assumption) (e:decide (a<b)=true:=by decide):k<b:=Int.lt_of_le_of_lt h (of_decide_eq_true e)
theorem b_t {x y z:Nat} (h:x≤y:=by with_reducible assumption) (h2:y≤z:=by with_reducible assumption):x≤z:=Nat.le_trans h h2
theorem b_p {x y:Nat} {a:Nat} (h:x+y≤a:=by with_reducible assumption):x≤a:=Nat.le_trans (Nat.le_add_right x y) h
theorem c_a {x c k:Nat} (h:x≤c:=by with_reducible assumption):x≤c+k:=Nat.le_trans h (Nat.le_add_right c k)
theorem CO {x c k l:Nat} (h:x≤c:=by with_reducible assumption):x≤c+k+l:=c_a (c_a h)
theorem lT {x c a b:Nat} (h:x≤c:=by with_reducible assumption) (e:Nat.ble a b=true:=by decide):x+a≤c+b:=Nat.add_le_add h (Nat.le_of_ble_eq_true e)
theorem c_f {a m n c:Nat} (e:Nat.ble a c=true:=by decide):a≤m*n+c:=Nat.le_trans (Nat.le_of_ble_eq_true e) (Nat.le_add_left c _)
theorem c_g {b c k a:Nat} (h:b+(c+k)≤a:=by with_reducible assumption):b+k+c≤a:=by lia
theorem c_h {b:Nat}:((b+1:Nat):Int)-1=(b:Int):=by lia
theorem ou {x:Int} {c k:Nat} (h:x≤(c:Int):=by with_reducible assumption):x≤((c+k:Nat):Int):=by lia
theorem CW {x:Int} {c k:Nat} (h:x≤(c:Int):=by with_reducible assumption) (e:Nat.ble 1 k=true:=by decide):x+1≤((c+k:Nat):Int):=by have:=Nat.le_of_ble_eq_true e;lia
theorem CV {k:Int} {N a b:Nat} {B:Int} (h:k≤(N:Int):=by with_reducible assumption) (h2:N+a<b:=by with_reducible assumption) (e:decide ((b:Int)≤B)=true:=by decide):k<B:=by have:=of_decide_eq_true e;lia
theorem AL {k:Int} {N a b:Nat} {B c:Int} (h:k≤(N:Int):=by with_reducible assumption) (h2:N+a<b:=by with_reducible assumption) (e:decide ((b:Int)+c≤B+(a:Int))=true:=by decide):k+c<B:=by have:=of_decide_eq_true e;lia
theorem CU {k:Int} {N b:Nat} {B:Int} (h:k≤(N:Int):=by with_reducible assumption) (h2:N<b:=by with_reducible assumption) (e:decide ((b:Int)≤B)=true:=by decide):k<B:=by have:=of_decide_eq_true e;lia
theorem CT {k:Int} {N M:Nat} (h2:N≤M:=by with_reducible assumption) (h:k≤(N:Int):=by with_reducible assumption):k≤(M:Int):=by lia
theorem CS {k c:Int} {a b:Int} (h:k+a<b:=by with_reducible assumption) (e:decide (c≤a)=true:=by decide):k+c<b:=by have:=of_decide_eq_true e;lia
theorem CQ {k:Int} {a b:Int} (h:k+a<b:=by with_reducible assumption) (e:decide (0≤a)=true:=by decide):k<b:=by have:=of_decide_eq_true e;lia
theorem CP {k a:Int} (e:decide (0≤a)=true:=by decide):k≤k+a:=by have:=of_decide_eq_true e;lia
theorem tG {k a b:Int} (h:k≤a:=by with_reducible assumption) (e:decide (0≤b)=true:=by decide):k≤a+b:=by have:=of_decide_eq_true e;lia
theorem c_x {b c A B:Nat} (h:b≤c:=by with_reducible assumption) (h2:c<A:=by with_reducible assumption) (e:Nat.ble A B=true:=by decide):b<B:=qO (Nat.lt_of_le_of_lt h h2) e
theorem AE {b c A B k:Nat} (h:b≤c:=by with_reducible assumption) (h2:c<A:=by with_reducible assumption) (e:Nat.ble (A+k) B=true:=by decide):b+k<B:=b_u k (Nat.lt_of_le_of_lt h h2) e
theorem CG {b c a A B:Nat} (h:b≤c:=by with_reducible assumption) (h2:c+a<A:=by with_reducible assumption) (e:Nat.ble A B=true:=by decide):b<B:=qO (Nat.lt_of_le_of_lt h (b_n h2)) e
theorem oo {b c d A B:Nat} (h:b≤c:=by with_reducible assumption) (h1:c≤d:=by with_reducible assumption) (h2:d<A:=by with_reducible assumption) (e:Nat.ble A B=true:=by decide):b<B:=c_x (Nat.le_trans h h1) h2 e
theorem CF {b c A B:Nat} (h:b≤c:=by with_reducible assumption) (h2:c≤A:=by with_reducible assumption) (e:Nat.ble A B=true:=by decide):b≤B:=ix (Nat.le_trans h h2) e
theorem mR {b c d A S:Nat} (h:b≤c:=by with_reducible assumption) (h1:c<d:=by with_reducible assumption) (h2:d≤A:=by with_reducible assumption) (hs:1000000<S:=by with_reducible assumption) (e:Nat.ble A 1000000=true:=by decide):b<S:=by have:=Nat.le_of_ble_eq_true e;lia
theorem wO {j n:Nat} {m:Int} (h:(j:Int)<m:=by with_reducible assumption) (e:decide (m≤(n:Int))=true:=by decide):j<n:=by have:=of_decide_eq_true e;lia
theorem tD {x a:Nat} {B:Int} (h:x≤a:=by with_reducible assumption) (e:decide ((a:Int)<B)=true:=by decide):(x:Int)<B:=by have:=of_decide_eq_true e;lia
theorem oq {c:Nat} {B:Int} (e:decide (B≤0)=true:=by decide):B≤(c:Int):=by have:=of_decide_eq_true e;lia
theorem tE {b c a B:Nat} (h:c≤a:=by with_reducible assumption) (e:Nat.ble a B=true:=by decide):min b c≤B:=Nat.le_trans (Nat.min_le_right b c) (ix h e)
theorem CI {b c:Nat}:min b c≤b:=Nat.min_le_left b c
theorem AK {b c d:Nat} (h:b=d:=by with_reducible assumption) (h2:c=d:=by with_reducible assumption):b=c:=h.trans h2.symm
theorem CN {b:Nat}:(b:Int)+1=((b+1:Nat):Int):=rfl
theorem c_s {b k c A:Nat} (h:b+k*(c+1)≤A:=by with_reducible assumption):b+k*c≤A:=Nat.le_trans (Nat.add_le_add_left (Nat.mul_le_mul_left k (Nat.le_succ c)) b) h
theorem tz {d n:Nat} (h:d+1<n+1:=by with_reducible assumption):d<n:=Nat.lt_of_succ_lt_succ h
theorem CM {d n:Nat} (h:d=n:=by with_reducible assumption):d≤n:=Nat.le_of_eq h
theorem AG {j:Nat} (h:(j:Int)<3:=by with_reducible assumption):j=0∨j=1∨j=2:=by lia
theorem CH {j:Nat} (h:(j:Int)<4:=by with_reducible assumption):j=0∨j=1∨j=2∨j=3:=by lia
theorem AF {j:Nat} (h:(j:Int)<5:=by with_reducible assumption):j=0∨j=1∨j=2∨j=3∨j=4:=by lia
theorem wN {j:Nat} (h:(j:Int)<7:=by with_reducible assumption):j=0∨j=1∨j=2∨j=3∨j=4∨j=5∨j=6:=by lia
theorem tF {N c b:Nat} (k:Nat) (h:N+(c-3)<b:=by with_reducible assumption) (h2:10≤c:=by with_reducible assumption) (e:Nat.ble k 7=true:=by decide):N+k<b:=by have:=Nat.le_of_ble_eq_true e;lia
theorem AH {N c:Nat} (k:Nat) (h2:10≤c:=by with_reducible assumption) (e:Nat.ble k 7=true:=by decide):N+k≤N+(c-3):=by have:=Nat.le_of_ble_eq_true e;lia
theorem CL {N c b:Nat} (k:Nat) (h:N+c<b:=by with_reducible assumption) (h2:10≤c:=by with_reducible assumption) (e:Nat.ble k 10=true:=by decide):N+k<b:=by have:=Nat.le_of_ble_eq_true e;lia
theorem CK {N c C:Nat} (k:Nat) (e:Nat.ble k C=true:=by decide):N+k≤N+8*c+C:=by have:=Nat.le_of_ble_eq_true e;lia
theorem CJ {N c C b:Nat} (k:Nat) (h:N+8*c+C<b:=by with_reducible assumption) (e:Nat.ble k C=true:=by decide):N+k+c<b:=by have:=Nat.le_of_ble_eq_true e;lia
theorem mS {N c d b:Nat} (h:N+(c-3)<b:=by with_reducible assumption) (e:c=8*d+40:=by with_reducible assumption):N+1+8*d+36<b:=by lia
theorem AI {N c d:Nat} (e:c=8*d+40:=by with_reducible assumption):N+1+8*d+36≤N+(c-3):=by lia
theorem ue {N c b:Nat} (h:N+c<b:=by with_reducible assumption) (h2:10≤c:=by with_reducible assumption):N+1+1+(c-3)<b:=by lia
theorem AJ {N c:Nat} (h2:10≤c:=by with_reducible assumption):N+1+1+(c-3)+1≤N+c:=by lia
end L2
namespace P10
open PySem L2
def tbl:List (Str×List Str):=[("number",["number"]),("name",["meant"]),("let",["bound","one","one"]),("var",["bound","one","one"]),("set",["meant","one"]),("do",["many"]),("if",["one","one","one"]),("while",["one","one"]),("each",["bound","one","one"]),("say",["one"]),("fault",["word"]),("op",["op","many"]),("new",["place","many"]),("get",["place","place","one"]),("fun",["bounds","one"]),("apply",["one","many"]),("call",["place","many"])]
def aA:PyData→PDs
  | .tuple l=>l
  | _=>[]
def ba (s:Str) (d:PyData):PDs:=if s="one" then [d] else if s="many" then aA d else []
def aD (sl:List Str) (ps:PDs):PDs:=(List.zipWith ba sl ps).flatten
def eI (s:Str) (p:PyData) (ks:PDs) (k:Nat):PyData:=if s="one" then ks[k]?.getD p else if s="many" then .tuple ((ks.drop k).take (aA p).length) else p
def cH (ks:PDs):List Str→PDs→Nat→PDs
  | s::sl,p::ps,k=>eI s p ks k::cH ks sl ps (k+(ba s p).length)
  | _,_,_=>[]
def Shp (s:Str) (d:PyData):Prop:=(s="many"→∃ l,d=.tuple l)∧(s∈(["number","meant","bound","place"]:List Str)→∃ i,d=.int i)∧(s∈(["op","word"]:List Str)→∃ x,d=.str x)∧(s="bounds"→∃ is:List Int,d=.tuple (is.map .int)∧is.length≤3)
structure Nd (d:PyData) (h:Str) (sl:List Str) (ps:PDs):Prop where
  eq:d=.tuple (.str h::ps)
  mem:(h,sl)∈tbl
  shp:Paired Shp sl ps
  few:(aD sl ps).length≤8
theorem ff {sl:List Str} {ps:PDs} {i:Nat} {s:Str} {p:PyData} (h1:sl[i]?=some s) (h2:ps[i]?=some p):aD (sl.take (i+1)) (ps.take (i+1))=aD (sl.take i) (ps.take i)++ba s p:=by
 unfold aD;have hi:i<sl.length:=(gES.mp h1).1;have hj:i<ps.length:=(gES.mp h2).1;rw[tAO,tAO,h1,h2];show (List.zipWith ba (sl.take i++[s]) (ps.take i++[p])).flatten=_;rw[List.zipWith_append (by rw[lTk,lTk];lia),List.flatten_append];simp
theorem im {sl:List Str} {ps:PDs} (i:Nat):(aD (sl.take i) (ps.take i)).length≤(aD sl ps).length:=by
 unfold aD;have e:List.zipWith ba (sl.take i) (ps.take i)=(List.zipWith ba sl ps).take i:=by rw[List.take_zipWith]
 rw[e];have:=congrArg (fun l=>(List.flatten l).length) (List.take_append_drop i (List.zipWith ba sl ps));simp only[List.flatten_append,lAp] at this;lia
theorem iN (ks:PDs):∀ {sl:List Str} {ps:PDs} (k:Nat),sl.length=ps.length→(cH ks sl ps k).length=ps.length
 | [],[],_,_=>rfl
 | s::sl,p::ps,k,h=>by
  show (cH ks sl ps _).length+1=ps.length+1;rw[iN ks _ (Nat.succ.inj h)]
theorem jS (ks:PDs):∀ {sl:List Str} {ps:PDs} (k i:Nat) {s:Str} {p:PyData},sl[i]?=some s→ps[i]?=some p→(cH ks sl ps k)[i]?=some (eI s p ks (k+(aD (sl.take i) (ps.take i)).length))
 | s'::sl,p'::ps,k,0,s,p,h1,h2=>by cases h1;cases h2;rfl
 | s'::sl,p'::ps,k,i+1,s,p,h1,h2=>by
  show (cH ks sl ps (k+(ba s' p').length))[i]?=_;rw[jS ks (sl:=sl) (ps:=ps) (k+(ba s' p').length) i h1 h2];show some (eI s p ks (k+(ba s' p').length+(aD (sl.take i) (ps.take i)).length))=some (eI s p ks (k+(ba s' p'++aD (sl.take i) (ps.take i)).length));rw[lAp,Nat.add_assoc]
 | [],_,_,_,_,_,h,_=>by simp at h
 | _::_,[],_,_,_,_,_,h=>by simp at h
theorem fH {k:Str} {sl:List Str} (h:(k,sl)∈tbl):sl.length≤3:=by
 have:∀ p∈tbl,p.2.length≤3:=by decide +kernel
 exact this _ h
end P10
namespace K12
open PySem L2 P10
structure Blt (mg:SOV):Prop where
  len:mg "len"=none
  range:mg "range"=none
  isinstance:mg "isinstance"=none
  tuple:mg "tuple"=none
  str:mg "str"=none
  zip:mg "zip"=none
  list:mg "list"=none
  sorted:mg "sorted"=none
structure Glb (P:Program) (w:World) (K:Fg) (mg:SOV):Prop where
  slots:∃ a kvs,mg "SLOTS"=some (.ref a)∧mX P w K a kvs∧∀ k sl,(k,sl)∈tbl→∃ r,bP kvs (.inr k)=some (.ref r)∧∀ H,SqT K H r (sl.map V.str)
section
variable {CX:CXT} {P:Program} {w:World} {K:Fg} {mg:SOV} {base:Heap} {N:List Str} {q:Str} {sc:Scope} {f:Addr} {cd:Value} {A:Around} {outer:List Env} {s:Shared} {H:Hp} {E:XK}
theorem bJ:(cJ CX P w K mg base N q sc f cd A outer s H E).nox.K=K:=rfl
theorem bN:(cJ CX P w K mg base N q sc f cd A outer s H E).nox.prog=P:=rfl
theorem bM:(cJ CX P w K mg base N q sc f cd A outer s H E).nox.w=w:=rfl
end
theorem dH {K:Fg} {H:Hp} {a b:Addr} {xs ys:PDs} {Q:VK} (hA:TD K H (.ref a) (.tuple xs)) (hB:TD K H (.ref b) (.tuple ys)) (hz:xs.length+ys.length≤100000)
 (q:∀ p H',ak H H'→TD K H' (.ref p) (.tuple (xs++ys))→Q (.ref p) H'):kq K (.ref a) (.ref b) H Q:=by
 obtain⟨a',us,e,ha,hu⟩:=hA.tup_of;cases e;obtain⟨b',vs,e,hb,hv⟩:=hB.tup_of;cases e;have hz0:(100000:Nat)<sizeLine:=by decide
 have l1:=hu.length;have l2:=hv.length;refine⟨a,b,us,vs,rfl,rfl,ha,hb,by lia,fun e=>?_,fun _ e=>?_,fun _ _ p hp=>?_⟩
 · have:xs=[]:=by rw[e] at l1;exact List.eq_nil_of_length_eq_zero l1.symm
   rw[this,List.nil_append] at q;exact q b H (ak.refl H) hB
 · have:ys=[]:=by rw[e] at l2;exact List.eq_nil_of_length_eq_zero l2.symm
   rw[this,List.append_nil] at q;exact q a H (ak.refl H) hA
 · have k:=smu (o:=HO.tup (us++vs)) hp;exact q p _ k (.tup (SqT.of pG) ((hu.same k).app (hv.same k)))
theorem gF {sl:List Str} {ps:PDs} (h:Paired Shp sl ps) {i:Nat} {p:PyData} (hp:ps[i]?=some p):∃ s,sl[i]?=some s∧Shp s p:=by
 induction h generalizing i with
 | nil=>simp at hp
 | cons z t ih =>
  cases i with
  | zero=>cases hp;exact⟨_,rfl,z⟩
  | succ i=>exact ih hp
section
variable {P:Program} {w:World} {K:Fg} {mg:SOV} {base:Heap}
abbrev sCh:Stmt:=top 2
inductive uK (K:Fg) (vs:List V) (H:Hp) (Q:VK):Prop
  | mk (v:V) (d:PyData) (h:Str) (sl:List Str) (ps:PDs) (g0_:vs=[v]) (g1_:TD K H v d) (g2_:Nd d h sl ps) (g3_:∀ v' H',ak H H'→TD K H' v' (.tuple (aD sl ps))→Q v' H'):uK K vs H Q
def vp (K:Fg):Sp:=fun vs H Q _=>uK K vs H Q
theorem yw:aB ["e","children","slot","part"] ["e"] (a7 sCh):=fsM
theorem zF (D:Def K mg "children_of" sCh) (T:Blt mg) (C:Glb P w K mg):Fn P w K mg base "children_of" 1 ["e"] (vp K):=by
 refine D.fn yw (fun vs H Q E h=>?_) (fun _ _ _ _ _ _ us hl=>by obtain⟨a,rfl⟩:=eK hl;rfl) (fun f cdv A outer s' H vs Q E hr h=>?_)
 · obtain⟨v,d,h',sl,ps,rfl,_⟩:=h;rfl
 · obtain⟨v,d,hd,sl,ps,rfl,td,nd',q⟩:=h;obtain⟨rfl,hm,hshp,hfew⟩:=nd';obtain⟨a,xs,rfl,ha,hx⟩:=td.tup_of;obtain⟨aS,kvs,gS,hS,hkv⟩:=C.slots;obtain⟨r,hr1,hr2⟩:=hkv hd sl hm;have nd:=yw.nd;have tl:=fH hm;have hfl:=Paired.length hshp;obtain⟨x0,xr,rfl,hx0,hxr⟩:∃ x0 xr,xs=x0::xr∧TD K H x0 (.str hd)∧TDs K H xr ps:=by
    cases hx with
    | cons p q=>exact⟨_,_,rfl,p,q⟩
   obtain rfl:=hx0.str_of;have hxl:=hxr.length;have hz0:(1000000:Nat)<sizeLine:=by decide
   refine⟨_,(pE (pN (i:=1) nd rfl (Or.inl rfl) (au pC))
 (pE (bp PassesOwn.never rfl (gG rfl T.zip (pA (jr (ju (v:=.ref aS) rfl gS rfl) (aq aF (pv 0) pH (fun _ _=>rfl)) (fun _ _=>rfl)) (pA (cs eY (pv 0) (bH pH) cQ) pC))) (dh rfl (aP (ae (i:=2) nd rfl (Or.inl rfl)) (aP (ae (i:=3) nd rfl (Or.inl rfl)) cE)))
 (pI (aN (pO aV (pv 2) pD (pP _)) (pI (hV (i:=1) nd rfl (Or.inl rfl) (au (pA (pv 3) pC)) (mJ))) (pI (aN (pO aV (pv 2) pD (pP _)) (pI (hV (i:=1) nd rfl (Or.inl rfl) (cg T.tuple (pA (pv 3) pC)) (mJ))) aE)))))
 (pI (az (pv 1))))),?_⟩
   dsimp only[bJ,bN,bM];refine⟨ef,fun c hc=>?_⟩;have k1:=smu (o:=HO.tup []) hc;have dc:TD K (upd H c (.tup [])) (.ref c) (.tuple []):=.tup (SqT.of pG) .nil;generalize upd H c (.tup [])=H1 at k1 dc ⊢;refine⟨_,rfl,a,_,0,.str hd,rfl,rfl,k1.seqT ha,pJ (j:=0) rfl,aS,kvs,.inr hd,.ref r,rfl,hS,rfl,hr1,_,rfl,_,rfl,a,_,rfl,k1.seqT ha,?_,fun p2 hp2=>?_⟩
   · unfold HT.sIx;simp
   · rw[show (some (1:Int))=some (((1:Nat):Nat):Int) from rfl,cK];have k2:=smu (o:=HO.tup ((V.str hd::xr).drop 1)) hp2;have hp2':(upd H1 p2 (.tup ((V.str hd::xr).drop 1))) p2=some (.tup xr):=pG;generalize upd H1 p2 (.tup ((V.str hd::xr).drop 1))=H2 at k2 hp2' ⊢;refine⟨r,p2,_,_,rfl,hr2 _,SqT.of hp2',?_⟩;show aw _ _ _ _ _ _;refine aw.zipTN (xs:=sl.map V.str) (ys:=xr) (by rw[lMp];exact AK) (fun i σ Hi=>ak H2 Hi∧∃ b x2 x3,σ=[some (.ref a),some (.ref b),x2,x3]∧TD K Hi (.ref b) (.tuple (aD (sl.take i) (ps.take i))))
      ⟨ak.refl _,c,_,_,rfl,dc.same k2⟩ ?_ ?_ ?_
     · rintro i σ Hi _ ⟨s2,_⟩;exact⟨hr2 _,SqT.of (s2 _ _ hp2')⟩
     · rintro i x y σ Hi t N_ B_ hN_ hxi hyi ⟨s2,b,x2,x3,rfl,db⟩ ht;rw[gEM] at hxi;obtain⟨slot,hsi,rfl⟩:=oMS.mp hxi;obtain⟨d,hdi,htd⟩:=hxr.get hyi;obtain⟨s0,hs0,hsh⟩:=gF hshp hdi;rw[hsi] at hs0;cases hs0;have k3:=smu (o:=HO.tup [V.str slot,y]) ht;have dy:=htd.same (k1.trans (k2.trans (s2.trans k3)));have db3:=db.same k3;have st:=ff hsi hdi;have hle:=im (sl:=sl) (ps:=ps) (i+1);refine⟨t,_,rfl,SqT.of pG,rfl,_,_,rfl,_,_,rfl,rfl,?_⟩;have s3:=s2.trans k3;generalize upd Hi t (.tup [V.str slot,y])=H3 at k3 dy db3 s3 ⊢;refine⟨_,rfl,rfl,_,rfl,?_⟩;by_cases h1:slot="one"
       · subst h1;refine pL (by simp) ?_;refine⟨_,rfl,_,rfl,eW,fun u hu=>?_⟩;have k4:=smu (o:=HO.tup [y]) hu;rw[st] at hle;refine dH (db3.same k4) (ys:=[d]) (.tup (SqT.of pG) (.cons (dy.same k4) .nil)) (by simp[ba] at hle ⊢;lia) fun p H' s' dp=>?_;exact hN_ _ _ ⟨s3.trans (k4.trans s'),p,_,_,rfl,by rw[st];exact dp⟩
       · refine pK (by simpa using h1) ?_;refine⟨_,rfl,rfl,_,rfl,?_⟩;by_cases h2:slot="many"
         · subst h2;obtain⟨l,rfl⟩:=hsh.1 rfl;refine pL (by simp) ?_;obtain⟨ay,xy,rfl,hay,hxy⟩:=dy.tup_of;refine⟨_,rfl,_,rfl,ay,xy,rfl,.inr ⟨hay,?_⟩⟩;rw[st] at hle;refine dH db3 (ys:=l) dy (by rw[lAp] at hle;show _+l.length≤_;have e:(ba "many" (PyData.tuple l))=l:=rfl;rw[e] at hle;exact CF) fun p H' s' dp=>?_;exact hN_ _ _ ⟨s3.trans s',p,_,_,rfl,by rw[st];exact dp⟩
         · refine pK (by simpa using h2) ?_;have e:ba slot d=[]:=by unfold ba;rw[if_neg h1,if_neg h2]
           exact hN_ _ _ ⟨s3,b,_,_,rfl,by rw[st,e,List.append_nil];exact db3⟩
     · rintro σ Hi ⟨s2,b,x2,x3,rfl,db⟩;rw[lMp,List.take_length,hfl,List.take_length] at db;exact⟨_,rfl,q _ _ (k1.trans (k2.trans s2)) db⟩
end
def SV (K:Fg) (H:Hp) (c:Addr) (ks:PDs):Prop:=∃ xs,(SqL K H c xs∨SqT K H c xs)∧TDs K H xs ks
theorem TDs.take {K:Fg} {H:Hp} {xs:List V} {ds:PDs} (h:TDs K H xs ds):∀ n,TDs K H (xs.take n) (ds.take n):=by
 intro n
 induction n generalizing xs ds with
 | zero=>rw[List.take_zero,List.take_zero];exact .nil
 | succ n ih =>
  cases h with
  | nil=>exact .nil
  | cons a b=>exact .cons a (ih b)
theorem TDs.at {K:Fg} {H:Hp} {xs:List V} {ds:PDs} (h:TDs K H xs ds) {i:Nat} {d:PyData} (hd:ds[i]?=some d):∃ x,xs[i]?=some x∧TD K H x d:=by
 have hi:i<ds.length:=(gES.mp hd).1;have hx:xs[i]?=some (xs[i]'(by rw[h.length];exact hi)):=gEE _;obtain⟨d',h1,h2⟩:=h.get hx;rw[hd] at h1;cases h1;exact⟨_,hx,h2⟩
theorem jF (xs:List V) (k n:Nat) (h:k+n≤xs.length):fi xs (some ((k:Nat):Int)) (some (((k:Nat):Int)+((n:Nat):Int)))=(xs.drop k).take n:=by
 unfold fi;rw[show ((k:Nat):Int)+((n:Nat):Int)=(((k+n:Nat):Nat):Int) by lia,HT.jm,HT.jm];have e1:min k xs.length=k:=Nat.min_eq_left (b_p);have e2:min (k+n) xs.length=k+n:=Nat.min_eq_left h;rw[e1]
 first | rw[e2] | skip
 rw[show k+n-k=n by lia]
section
variable {P:Program} {w:World} {K:Fg} {mg:SOV} {base:Heap}
abbrev sWc:Stmt:=top 3
inductive uh (K:Fg) (vs:List V) (H:Hp) (Q:VK):Prop
  | mk (v:V) (c:Addr) (d:PyData) (h:Str) (sl:List Str) (ps ks:PDs) (g0_:vs=[v,.ref c]) (g1_:TD K H v d) (g2_:Nd d h sl ps) (g3_:SV K H c ks) (g4_:ks.length=(aD sl ps).length) (g5_:∀ v' H',ak H H'→TD K H' v' (.tuple (.str h::cH ks sl ps 0))→Q v' H'):uh K vs H Q
def xE (K:Fg):Sp:=fun vs H Q _=>uh K vs H Q
theorem xY:aB ["e","children","told","at","slot","part"] ["e","children"] (a7 sWc):=fsM
theorem yV (D:Def K mg "with_children" sWc) (T:Blt mg) (C:Glb P w K mg):Fn P w K mg base "with_children" 1 ["e","children"] (xE K):=by
 refine D.fn xY (fun vs H Q E h=>?_) (fun _ _ _ _ _ _ us hl=>by obtain⟨a,b,rfl⟩:=il hl;rfl) (fun f cdv A outer s' H vs Q E hr h=>?_)
 · obtain⟨v,c,d,h',sl,ps,ks,rfl,_⟩:=h;rfl
 · obtain⟨v,c,d,hd,sl,ps,ks,rfl,td,nd',⟨xc,hxc,hks⟩,hkl,q⟩:=h;obtain⟨rfl,hm,hshp,hfew⟩:=nd';obtain⟨a,xs,rfl,ha,hx⟩:=td.tup_of;obtain⟨aS,kvs,gS,hS,hkv⟩:=C.slots;obtain⟨r,hr1,hr2⟩:=hkv hd sl hm;have nd:=xY.nd;have tl:=fH hm;have hfl:=Paired.length hshp;obtain⟨x0,xr,rfl,hx0,hxr⟩:∃ x0 xr,xs=x0::xr∧TD K H x0 (.str hd)∧TDs K H xr ps:=by
    cases hx with
    | cons p q=>exact⟨_,_,rfl,p,q⟩
   obtain rfl:=hx0.str_of;have hxl:=hxr.length;have hcl:=hks.length;have hz0:(1000000:Nat)<sizeLine:=by decide
   refine⟨_,(pE (pN (i:=2) nd rfl (Or.inl rfl) (ag (pA (aq aF (pv 0) pH (fun _ _=>rfl)) pC)))
 (pE (pN (i:=3) nd rfl (Or.inl rfl) pH)
 (pE (bp PassesOwn.never rfl (gG rfl T.zip (pA (jr (ju (v:=.ref aS) rfl gS rfl) (aq aF (pv 0) pH (fun _ _=>rfl)) (fun _ _=>rfl)) (pA (cs eY (pv 0) (bH pH) cQ) pC))) (dh rfl (aP (ae (i:=4) nd rfl (Or.inl rfl)) (aP (ae (i:=5) nd rfl (Or.inl rfl)) cE)))
 (pI (aN (pO aV (pv 4) pD (pP _)) (pE (am (aX (pv 2) (pA (aq wt (pv 1) (pv 3) (fun _ _=>rfl)) pC)))
 (pI (hV (i:=3) nd rfl (Or.inl rfl) pH (lJ)))) (pI (aN (pO aV (pv 4) pD (pP _)) (pE (am (aX (pv 2) (pA (cg T.tuple (pA (cs (gE.or rO) (pv 1) (bH (pv 3)) (bH (aC bI (pv 3) (bc T.len (pA (pv 5) pC))))) pC)) pC)))
 (pI (hV (i:=3) nd rfl (Or.inl rfl) (bc T.len (pA (pv 5) pC)) (lJ)))) (pI (am (aX (pv 2) (pA (pv 5) pC)))))))))
 (pI (az (cg T.tuple (pA (pv 2) pC))))))),?_⟩
   dsimp only[bJ,bN,bM];refine⟨_,rfl,a,_,0,.str hd,rfl,rfl,ha,pJ (j:=0) rfl,eW,fun W hW=>?_⟩;have k1:=smu (o:=HO.lst [V.str hd]) hW;have hW1:(upd H W (.lst [V.str hd])) W=some (.lst [V.str hd]):=pG;generalize upd H W (.lst [V.str hd])=H1 at k1 hW1 ⊢;refine⟨_,rfl,a,_,0,.str hd,rfl,rfl,k1.seqT ha,pJ (j:=0) rfl,aS,kvs,.inr hd,.ref r,rfl,hS,rfl,hr1,_,rfl,_,rfl,a,_,rfl,k1.seqT ha,?_,fun p2 hp2=>?_⟩
   · unfold HT.sIx;simp
   · rw[show (some (1:Int))=some (((1:Nat):Nat):Int) from rfl,cK];have k2:=smu (o:=HO.tup ((V.str hd::xr).drop 1)) hp2;have hp2':(upd H1 p2 (.tup ((V.str hd::xr).drop 1))) p2=some (.tup xr):=pG;have hW2:=k2 _ _ hW1;generalize upd H1 p2 (.tup ((V.str hd::xr).drop 1))=H2 at k2 hp2' hW2 ⊢;refine⟨r,p2,_,_,rfl,hr2 _,SqT.of hp2',?_⟩;show aw _ _ _ _ _ _;have wl:=iN ks 0 hfl;refine aw.zipTN (xs:=sl.map V.str) (ys:=xr) (by rw[lMp];exact AK) (fun i σ Hi=>ak H Hi∧Hi p2=some (.tup xr)∧(∃ ys,Hi W=some (.lst ys)∧TDs K Hi ys (.str hd::(cH ks sl ps 0).take i))∧∃ x4 x5,σ=[some (.ref a),some (.ref c),some (.ref W),some (.int (((aD (sl.take i) (ps.take i)).length:Nat):Int)),x4,x5])
      ⟨k1.trans k2,hp2',⟨_,hW2,.cons (.str _) .nil⟩,_,_,rfl⟩ ?_ ?_ ?_
     · rintro i σ Hi _ ⟨_,h2,_⟩;exact⟨hr2 _,SqT.of h2⟩
     · rintro i x y σ Hi t N_ B_ hN_ hxi hyi ⟨s2,hp,⟨ys,hWi,hys⟩,x4,x5,rfl⟩ ht;rw[gEM] at hxi;obtain⟨slot,hsi,rfl⟩:=oMS.mp hxi;obtain⟨d,hdi,htd⟩:=hxr.get hyi;obtain⟨s0,hs0,hsh⟩:=gF hshp hdi;rw[hsi] at hs0;cases hs0;have k3:=smu (o:=HO.tup [V.str slot,y]) ht;have s3:=s2.trans k3;have dy:=htd.same s3;have hW3:=k3 _ _ hWi;have hp3:=k3 _ _ hp;have hys3:=hys.same k3;have hks3:=hks.same s3;have hxc3:SqL K (upd Hi t (.tup [V.str slot,y])) c xc∨SqT K (upd Hi t (.tup [V.str slot,y])) c xc:=hxc.imp (fun z=>s3.seq z) (fun z=>s3.seqT z);have pW:p2≠W:=fun e=>by rw[e,hWi] at hp;cases hp
       have st:=ff hsi hdi;have hle:=im (sl:=sl) (ps:=ps) (i+1);have wat:=jS ks 0 i hsi hdi;rw[Nat.zero_add] at wat;have hyl:=hys.length;have hwi:(cH ks sl ps 0).take (i+1)=(cH ks sl ps 0).take i++[eI slot d ks (aD (sl.take i) (ps.take i)).length]:=by rw[tAO,wat];rfl
       refine⟨t,_,rfl,SqT.of pG,rfl,_,_,rfl,_,_,rfl,rfl,?_⟩;generalize upd Hi t (.tup [V.str slot,y])=H3 at k3 s3 dy hW3 hp3 hys3 hks3 hxc3 ⊢;have hlen:ys.length<sizeLine:=by
        rw[List.length_cons,lTk] at hyl;lia
       have fin:∀ (H4:Hp) (u:V),ak H3 H4→TD K H4 u (eI slot d ks (aD (sl.take i) (ps.take i)).length)→(∃ l xs' y',(V.ref W:V)=.ref l∧[u]=[y']∧H4 l=some (.lst xs')∧xs'.length<sizeLine∧l=W∧xs'=ys∧y'=u)∧ak H (upd H4 W (.lst (ys++[u])))∧(upd H4 W (.lst (ys++[u]))) p2=some (.tup xr)∧∃ zs,(upd H4 W (.lst (ys++[u]))) W=some (.lst zs)∧TDs K (upd H4 W (.lst (ys++[u]))) zs (.str hd::(cH ks sl ps 0).take (i+1)):=by
        intro H4 u s4 du;have hW4:=s4 _ _ hW3;refine⟨⟨W,ys,u,rfl,rfl,hW4,hlen,rfl,rfl,rfl⟩,aG (s3.trans s4) hW,by rw[a9 pW];exact s4 _ _ hp3,_,pG,?_⟩;rw[hwi,← List.cons_append];exact ((hys3.same s4).snoc du).tk (bC (.inr ⟨_,hW4⟩))
       refine⟨_,rfl,rfl,_,rfl,?_⟩;by_cases h1:slot="one"
       · subst h1;refine pL (by simp) ?_;have hlt:(aD (sl.take i) (ps.take i)).length<ks.length:=by
          rw[st,lAp] at hle;have e:(ba "one" d).length=1:=rfl;lia
         have hk:ks[(aD (sl.take i) (ps.take i)).length]?=some ks[(aD (sl.take i) (ps.take i)).length]:=gEE hlt;obtain⟨u,hu,du⟩:=TDs.at hks3 hk;have en:eI "one" d ks (aD (sl.take i) (ps.take i)).length=ks[(aD (sl.take i) (ps.take i)).length]:=by unfold eI;rw[if_pos rfl,hk];rfl
         obtain⟨_,f2,f3,zs,f4,f5⟩:=fin H3 u (ak.refl _) (by rw[en];exact du);refine⟨_,rfl,.inl ⟨rfl,_,SqL.of hW3⟩,_,rfl,_,rfl,?_⟩;have go:∀ {Q2:VK},Q2 u H3→rIx K (.ref c) (.int (((aD (sl.take i) (ps.take i)).length:Nat):Int)) H3 Q2:=fun {Q2} q2=>by
          rcases hxc3 with z | z
          · exact .inl ⟨c,xc,_,u,rfl,rfl,z,pJ hu,q2⟩
          · exact .inr (.inl ⟨c,xc,_,u,rfl,rfl,z,pJ hu,q2⟩)
         refine go ?_;refine⟨W,ys,u,rfl,rfl,hW3,hlen,?_⟩;refine⟨_,rfl,_,_,rfl,rfl,?_⟩;refine hN_ _ _ ⟨f2,f3,⟨zs,f4,f5⟩,some (.str "one"),some y,?_⟩;rw[st,lAp];rfl
       · refine pK (by simpa using h1) ?_;refine⟨_,rfl,rfl,_,rfl,?_⟩;by_cases h2:slot="many"
         · subst h2;obtain⟨l,rfl⟩:=hsh.1 rfl;refine pL (by simp) ?_;obtain⟨ay,xy,rfl,hay,hxy⟩:=dy.tup_of;have hxyl:=hxy.length;have e0:ba "many" (PyData.tuple l)=l:=rfl;have hlt:(aD (sl.take i) (ps.take i)).length+xy.length≤xc.length:=by
            rw[st,lAp,e0] at hle;lia
           have en:eI "many" (PyData.tuple l) ks (aD (sl.take i) (ps.take i)).length=.tuple ((ks.drop (aD (sl.take i) (ps.take i)).length).take xy.length):=by unfold eI;rw[if_neg (by decide +kernel),if_pos rfl,hxyl];rfl
           have dcut:TDs K H3 ((xc.drop (aD (sl.take i) (ps.take i)).length).take xy.length) ((ks.drop (aD (sl.take i) (ps.take i)).length).take xy.length):=TDs.take (hks3.drop _) _;refine⟨_,rfl,.inl ⟨rfl,_,SqL.of hW3⟩,_,rfl,_,rfl,_,rfl,_,rfl,_,rfl,ay,xy,rfl,.inr hay,_,_,rfl,rfl,_,rfl,?_⟩
           rcases hxc3 with z | z
           · refine .inl ⟨c,xc,rfl,z,fun p hp=>?_⟩;rw[jF _ _ _ hlt];have k5:=smu (o:=HO.lst ((xc.drop (aD (sl.take i) (ps.take i)).length).take xy.length)) hp;refine⟨p,_,rfl,.inl ⟨SqL.of pG,fun u hu=>?_⟩⟩;have k6:=smu (o:=HO.tup ((xc.drop (aD (sl.take i) (ps.take i)).length).take xy.length)) hu;have s4:=k5.trans k6;obtain⟨_,f2,f3,zs,f4,f5⟩:=fin _ (.ref u) s4 (by rw[en];exact .tup (SqT.of pG) ((dcut.same k5).same k6));refine⟨W,ys,.ref u,rfl,rfl,s4 _ _ hW3,hlen,?_⟩;refine⟨_,rfl,_,rfl,ay,xy,rfl,.inr ((s4.seqT hay).tk (bC (.inr ⟨_,s4 _ _ hW3⟩))),_,_,rfl,rfl,?_⟩;refine hN_ _ _ ⟨f2,f3,⟨zs,f4,f5⟩,some (.str "many"),some (.ref ay),?_⟩;rw[st,lAp,e0,← hxyl];rfl
           · refine .inr ⟨c,xc,rfl,z,fun e=>?_,fun p hp=>?_⟩
             · rw[jF _ _ _ hlt] at e;rw[e] at dcut;refine⟨c,xc,rfl,.inr ⟨z,?_⟩⟩;have s4:=ak.refl H3;obtain⟨_,f2,f3,zs,f4,f5⟩:=fin _ (.ref c) s4 (by rw[en];exact .tup z dcut);refine⟨W,ys,.ref c,rfl,rfl,s4 _ _ hW3,hlen,?_⟩;refine⟨_,rfl,_,rfl,ay,xy,rfl,.inr ((s4.seqT hay).tk (bC (.inr ⟨_,s4 _ _ hW3⟩))),_,_,rfl,rfl,?_⟩;refine hN_ _ _ ⟨f2,f3,⟨zs,f4,f5⟩,some (.str "many"),some (.ref ay),?_⟩;rw[st,lAp,e0,← hxyl];rfl
             · rw[jF _ _ _ hlt];have k5:=smu (o:=HO.tup ((xc.drop (aD (sl.take i) (ps.take i)).length).take xy.length)) hp;refine⟨p,_,rfl,.inr ⟨SqT.of pG,?_⟩⟩;have s4:=k5;obtain⟨_,f2,f3,zs,f4,f5⟩:=fin _ (.ref p) s4 (by rw[en];exact .tup (SqT.of pG) (dcut.same k5));refine⟨W,ys,.ref p,rfl,rfl,s4 _ _ hW3,hlen,?_⟩;refine⟨_,rfl,_,rfl,ay,xy,rfl,.inr ((s4.seqT hay).tk (bC (.inr ⟨_,s4 _ _ hW3⟩))),_,_,rfl,rfl,?_⟩;refine hN_ _ _ ⟨f2,f3,⟨zs,f4,f5⟩,some (.str "many"),some (.ref ay),?_⟩;rw[st,lAp,e0,← hxyl];rfl
         · refine pK (by simpa using h2) ?_;have en:eI slot d ks (aD (sl.take i) (ps.take i)).length=d:=by unfold eI;rw[if_neg h1,if_neg h2]
           have e:ba slot d=[]:=by unfold ba;rw[if_neg h1,if_neg h2]
           obtain⟨_,f2,f3,zs,f4,f5⟩:=fin H3 y (ak.refl _) (by rw[en];exact dy);refine⟨_,rfl,.inl ⟨rfl,_,SqL.of hW3⟩,_,rfl,W,ys,y,rfl,rfl,hW3,hlen,?_⟩;refine hN_ _ _ ⟨f2,f3,⟨zs,f4,f5⟩,some (.str slot),some y,?_⟩;rw[st,e,List.append_nil];rfl
     · rintro σ Hi ⟨s2,_,⟨ys,hWi,hys⟩,x4,x5,rfl⟩;rw[lMp,hfl,← wl,List.take_length] at hys;refine⟨_,rfl,W,ys,rfl,.inl ⟨SqL.of hWi,fun F hF=>?_⟩⟩;have k5:=smu (o:=HO.tup ys) hF;exact q _ _ (s2.trans k5) (.tup (SqT.of pG) (hys.same k5))
end
end K12
namespace L2
theorem a0 {a b:TS} {d:St→Hp→Prop} {r:VK} {k c:St→Hp→Prop} {σ:St} {H:Hp} (h:∀ N:St→Hp→Prop,(∀ σ' H',b ⟨d,r,k,c⟩ σ' H'→N σ' H')→a ⟨N,r,k,c⟩ σ H):v4 a b ⟨d,r,k,c⟩ σ H:=h _ fun _ _ z=>z
theorem aw.byN {J:It} {xs:List V} {Ok:Hp→Prop} (Y:di J xs Ok) {g:TG} {tb:TS} {d:St→Hp→Prop} {r:VK} {k c:St→Hp→Prop} {σ:St} {H:Hp} (Pv:Nat→St→Hp→Prop) (h0:Pv 0 σ H) (hl:∀ i σ H,i≤xs.length→Pv i σ H→Ok H)
 (hs:∀ i x σ H (N B:St→Hp→Prop),(∀ σ' H',Pv (i+1) σ' H'→N σ' H')→(∀ σ' H',d σ' H'→B σ' H')→xs[i]?=some x→Pv i σ H→g x σ H fun σ2 H2=>tb ⟨N,r,B,N⟩ σ2 H2) (hd:∀ σ H,Pv xs.length σ H→d σ H):aw J g tb ⟨d,r,k,c⟩ σ H :=
 aw.by Y Pv h0 hl (fun i x σ H h1 h2=>hs i x σ H _ _ (fun _ _ z=>z) (fun _ _ z=>z) h1 h2) hd
end L2
namespace P10
open PySem L2
def da (h:Str):List Str:=((tbl.find? fun p=>decide (p.1=h)).map (·.2)).getD []
theorem gR {h:Str} {sl:List Str} (m:(h,sl)∈tbl):da h=sl:=by
 have:∀ p∈tbl,da p.1=p.2:=by decide +kernel
 exact this _ m
def ao:PyData→PDs
  | .tuple (.str h::ps)=>aD (da h) ps
  | _=>[]
def gJ (ks:PDs):PyData→PyData
  | .tuple (.str h::ps)=>.tuple (.str h::cH ks (da h) ps 0)
  | d=>d
theorem Nd.kids {d:PyData} {h:Str} {sl:List Str} {ps:PDs} (n:Nd d h sl ps):ao d=aD sl ps:=by
 rw[n.eq];show aD (da h) ps=_;rw[gR n.mem]
theorem Nd.put {d:PyData} {h:Str} {sl:List Str} {ps:PDs} (n:Nd d h sl ps) (ks:PDs):gJ ks d=.tuple (.str h::cH ks sl ps 0):=by
 rw[n.eq];show PyData.tuple (.str h::cH ks (da h) ps 0)=_;rw[gR n.mem]
def atD (d:PyData):List Nat→Option PyData
  | []=>some d
  | i::r=>(ao d)[i]?.bind fun x=>atD x r
def WFd:Nat→PyData→Prop
  | 0,_=>False
  | n+1,d=>∃ h sl ps,Nd d h sl ps∧∀ x∈aD sl ps,WFd n x
theorem WFd.kid {n:Nat} {d x:PyData} (h:WFd (n+1) d) (hx:x∈ao d):WFd n x:=by
 obtain⟨h',sl,ps,nd,w⟩:=h;rw[nd.kids] at hx;exact w x hx
end P10
namespace K12
open PySem L2 P10
section
variable {P:Program} {w:World} {K:Fg} {mg:SOV} {base:Heap}
end
end K12
namespace P10
open PySem L2
def bb (z:Str) (ws:List Str):Bool:=ws.any fun y=>y==z
def w1:List Str:=["number","name","fault"]
def w2:List Str:=["let","var","each"]
def w3:List Str:=["op","new","call"]
def w7:List Str:=["set","fun"]
theorem mT {h:Str} {sl:List Str} (m:(h,sl)∈tbl) (e:bb h w2=true):sl=(["bound","one","one"]:List Str):=by
 have:∀ p∈tbl,bb p.1 w2=true→p.2=(["bound","one","one"]:List Str):=by decide +kernel
 exact this _ m e
theorem mI (d:PyData):ba "one" d=[d]:=rfl
theorem wo (l:PDs):ba "many" (.tuple l)=l:=rfl
theorem iH {s:Str} (h1:s≠"one") (h2:s≠"many") (d:PyData):ba s d=[]:=by unfold ba;rw[if_neg h1,if_neg h2]
theorem bE (s:Str) (sl:List Str) (p:PyData) (ps:PDs):aD (s::sl) (p::ps)=ba s p++aD sl ps:=rfl
theorem e8 (z:Str) (ws:List Str):inV (V.str z) (ws.map V.str)=bb z ws:=by
 unfold inV bb;rw[List.any_map];rfl
theorem cB (ws:List Str):(ws.map V.str).all eU=true:=by
 rw[List.all_map,List.all_eq_true];intro x _;rfl
end P10
namespace K12
open PySem L2 P10
theorem eA {s:Str} {ps:PDs} (h:Paired Shp [s] ps):∃ p,ps=[p]∧Shp s p:=by
 cases h with
 | cons a t=>cases t;exact⟨_,rfl,a⟩
theorem cb {s s2:Str} {ps:PDs} (h:Paired Shp [s,s2] ps):∃ p p2,ps=[p,p2]∧Shp s p∧Shp s2 p2:=by
 cases h with
 | cons a t=>obtain⟨p2,rfl,h2⟩:=eA t;exact⟨_,_,rfl,a,h2⟩
theorem eu {s s2 s3:Str} {ps:PDs} (h:Paired Shp [s,s2,s3] ps):∃ p p2 p3,ps=[p,p2,p3]∧Shp s p∧Shp s2 p2∧Shp s3 p3:=by
 cases h with
 | cons a t=>obtain⟨p2,p3,rfl,h2,h3⟩:=cb t;exact⟨_,_,_,rfl,a,h2,h3⟩
section
variable {K:Fg} {H:Hp}
theorem xn {xr:List V} {p:PyData} (h:TDs K H xr [p]):∃ x,xr=[x]∧TD K H x p:=by
 cases h with
 | cons a t=>cases t;exact⟨_,rfl,a⟩
theorem ln {xr:List V} {p p2:PyData} (h:TDs K H xr [p,p2]):∃ x x2,xr=[x,x2]∧TD K H x p∧TD K H x2 p2:=by
 cases h with
 | cons a t=>obtain⟨x2,rfl,h2⟩:=xn t;exact⟨_,_,rfl,a,h2⟩
theorem uX {xr:List V} {p p2 p3:PyData} (h:TDs K H xr [p,p2,p3]):∃ x x2 x3,xr=[x,x2,x3]∧TD K H x p∧TD K H x2 p2∧TD K H x3 p3:=by
 cases h with
 | cons a t=>obtain⟨x2,x3,rfl,h2,h3⟩:=ln t;exact⟨_,_,_,rfl,a,h2,h3⟩
end
section
variable {P:Program} {w:World} {K:Fg} {mg:SOV} {base:Heap}
end
end K12
namespace P10
open PySem L2
def bi (h:Str) (ps:PDs):PDs:=if bb h w2=true then ps.take 1 else if h="fun" then aA (ps.headD (.tuple [])) else []
def w8:List Str:=["name","set"]
def eJ (h:Str) (ps:PDs):Option PyData:=if bb h w8=true then ps.head? else none
theorem lL {sl:List Str} (m:(("fun":Str),sl)∈tbl):sl=(["bounds","one"]:List Str):=by
 have:∀ p∈tbl,p.1="fun"→p.2=(["bounds","one"]:List Str):=by decide +kernel
 exact this _ m rfl
theorem zW {h:Str} {sl:List Str} (m:(h,sl)∈tbl) (e:bb h w8=true):sl=(["meant"]:List Str)∨sl=(["meant","one"]:List Str):=by
 have:∀ p∈tbl,bb p.1 w8=true→p.2=(["meant"]:List Str)∨p.2=(["meant","one"]:List Str):=by decide +kernel
 exact this _ m e
end P10
namespace K12
open PySem L2 P10
section
variable {P:Program} {w:World} {K:Fg} {mg:SOV} {base:Heap}
abbrev sBb:Stmt:=top 4
inductive uO (K:Fg) (vs:List V) (H:Hp) (Q:VK):Prop
  | mk (v:V) (d:PyData) (h:Str) (sl:List Str) (ps:PDs) (g0_:vs=[v]) (g1_:TD K H v d) (g2_:Nd d h sl ps) (g3_:∀ v' H',ak H H'→TD K H' v' (.tuple (bi h ps))→Q v' H'):uO K vs H Q
def oX (K:Fg):Sp:=fun vs H Q _=>uO K vs H Q
theorem Bm:aB ["e"] ["e"] (a7 sBb):=fsM
theorem zJ (D:Def K mg "bound_by" sBb) (T:Blt mg):Fn P w K mg base "bound_by" 1 ["e"] (oX K):=by
 refine D.fn Bm (fun vs H Q E h=>?_) (fun _ _ _ _ _ _ us hl=>by obtain⟨a,rfl⟩:=eK hl;rfl) (fun f cdv A outer s' H vs Q E hr h=>?_)
 · obtain⟨v,d,h',sl,ps,rfl,_⟩:=h;rfl
 · obtain⟨v,d,hd,sl,ps,rfl,td,nd',q⟩:=h;obtain⟨rfl,hm,hshp,hfew⟩:=nd';obtain⟨a,xs,rfl,ha,hx⟩:=td.tup_of;obtain⟨x0,xr,rfl,hx0,hxr⟩:∃ x0 xr,xs=x0::xr∧TD K H x0 (.str hd)∧TDs K H xr ps:=by
    cases hx with
    | cons p q=>exact⟨_,_,rfl,p,q⟩
   obtain rfl:=hx0.str_of;have at0:∀ {x:V} {r:List V},atI (x::r) 0=some x:=fun {x r}=>pJ (j:=0) rfl;have at1:∀ {x y:V} {r:List V},atI (x::y::r) 1=some y:=fun {x y r}=>pJ (j:=1) rfl;refine⟨_,(pE (aN (pO cA (aq aF (pv 0) pH (fun _ _=>rfl)) (au (pA pD (pA pD (pA pD pC)))) (by with_unfolding_all rfl)) (pI (az (au (pA (aq aF (pv 0) pH (fun _ _=>rfl)) pC)))) aE)
 (pI (az (ib (pO aV (aq aF (pv 0) pH (fun _ _=>rfl)) pD (pP _)) (cg T.tuple (pA (aq aF (pv 0) pH (fun _ _=>rfl)) pC)) (au pC))))),?_⟩
   dsimp only[bJ,bN,bM];refine⟨_,rfl,a,_,0,.str hd,rfl,rfl,ha,at0,ee,fun t1 ht1=>?_⟩;have k1:=smu (o:=HO.tup (w2.map V.str)) ht1;refine⟨t1,w2.map V.str,rfl,.inr (SqT.of pG),rfl,cB _,_,rfl,?_⟩;rw[e8];have g1:upd H t1 (.tup [V.str "let",V.str "var",V.str "each"])=upd H t1 (.tup (w2.map V.str)):=rfl;rw[g1];generalize upd H t1 (.tup (w2.map V.str))=H1 at k1 ⊢;have ha1:=k1.seqT ha;have hxr1:=hxr.same k1;cases b1:bb hd w2 with
   | true =>
    refine pL rfl ?_;obtain rfl:=mT hm b1;obtain⟨p0,p1,p2,rfl,_,_,_⟩:=eu hshp;obtain⟨y0,y1,y2,rfl,e0,e1,e2⟩:=uX hxr1;have eb:bi hd [p0,p1,p2]=[p0]:=by unfold bi;rw[if_pos b1];rfl
    rw[eb] at q;refine⟨_,rfl,a,_,1,y0,rfl,rfl,ha1,at1,eW,fun u hu=>?_⟩;have ku:=smu (o:=HO.tup [y0]) hu;exact q _ _ (k1.trans ku) (.tup (SqT.of pG) (.cons (e0.same ku) .nil))
   | false =>
   refine pK (by decide) ?_;refine⟨_,rfl,a,_,0,.str hd,rfl,rfl,ha1,at0,rfl,_,rfl,?_⟩;by_cases b2:hd="fun"
   · subst b2;refine pL (by simp) ?_;obtain rfl:=lL hm;obtain⟨p0,p1,rfl,s0,_⟩:=cb hshp;obtain⟨is,rfl,_⟩:=s0.2.2.2 rfl;obtain⟨y0,y1,rfl,e0,e1⟩:=ln hxr1;obtain⟨c,zs,rfl,hc,hz⟩:=e0.tup_of;have eb:bi "fun" [PyData.tuple (is.map .int),p1]=is.map .int:=by unfold bi;rw[b1,if_neg (by decide),if_pos rfl];rfl
     rw[eb] at q;exact⟨_,rfl,a,_,1,_,rfl,rfl,ha1,at1,c,zs,rfl,.inr ⟨hc,q _ _ k1 (.tup hc hz)⟩⟩
   · refine pK (by simpa using b2) ?_;have eb:bi hd ps=[]:=by unfold bi;rw[b1,if_neg (by decide),if_neg b2]
     rw[eb] at q;refine⟨ef,fun u hu=>?_⟩;exact q _ _ (k1.trans (smu hu)) (.tup (SqT.of pG) .nil)
end
section
variable {P:Program} {w:World} {K:Fg} {mg:SOV} {base:Heap}
abbrev sLb:Stmt:=top 36
theorem Bl:aB ["_law_e"] ["_law_e"] (a7 sLb):=fsM
theorem zt (D:Def K mg "_law_bound_ids" sLb):Fn P w K mg base "_law_bound_ids" 1 ["_law_e"] (oX K):=by
 refine D.fn Bl (fun vs H Q E h=>?_) (fun _ _ _ _ _ _ us hl=>by obtain⟨a,rfl⟩:=eK hl;rfl) (fun f cdv A outer s' H vs Q E hr h=>?_)
 · obtain⟨v,d,h',sl,ps,rfl,_⟩:=h;rfl
 · obtain⟨v,d,hd,sl,ps,rfl,td,nd',q⟩:=h;obtain⟨rfl,hm,hshp,hfew⟩:=nd';obtain⟨a,xs,rfl,ha,hx⟩:=td.tup_of;obtain⟨x0,xr,rfl,hx0,hxr⟩:∃ x0 xr,xs=x0::xr∧TD K H x0 (.str hd)∧TDs K H xr ps:=by
    cases hx with
    | cons p q=>exact⟨_,_,rfl,p,q⟩
   obtain rfl:=hx0.str_of;have at0:∀ {x:V} {r:List V},atI (x::r) 0=some x:=fun {x r}=>pJ (j:=0) rfl;have at1:∀ {x y:V} {r:List V},atI (x::y::r) 1=some y:=fun {x y r}=>pJ (j:=1) rfl;refine⟨_,(pE (aN (pO cA (aq aF (pv 0) pH (fun _ _=>rfl)) (au (pA pD (pA pD (pA pD pC)))) (by with_unfolding_all rfl)) (pI (az (au (pA (aq aF (pv 0) pH (fun _ _=>rfl)) pC)))) aE)
 (pE (aN (pO aV (aq aF (pv 0) pH (fun _ _=>rfl)) pD (pP _)) (pI (az (aq aF (pv 0) pH (fun _ _=>rfl)))) aE)
 (pI (az (au pC))))),?_⟩
   dsimp only[bJ,bN,bM];refine⟨_,rfl,a,_,0,.str hd,rfl,rfl,ha,at0,ee,fun t1 ht1=>?_⟩;have k1:=smu (o:=HO.tup (w2.map V.str)) ht1;refine⟨t1,w2.map V.str,rfl,.inr (SqT.of pG),rfl,cB _,_,rfl,?_⟩;rw[e8];have g1:upd H t1 (.tup [V.str "let",V.str "var",V.str "each"])=upd H t1 (.tup (w2.map V.str)):=rfl;rw[g1];generalize upd H t1 (.tup (w2.map V.str))=H1 at k1 ⊢;have ha1:=k1.seqT ha;have hxr1:=hxr.same k1;cases b1:bb hd w2 with
   | true =>
    refine pL rfl ?_;obtain rfl:=mT hm b1;obtain⟨p0,p1,p2,rfl,_,_,_⟩:=eu hshp;obtain⟨y0,y1,y2,rfl,e0,e1,e2⟩:=uX hxr1;have eb:bi hd [p0,p1,p2]=[p0]:=by unfold bi;rw[if_pos b1];rfl
    rw[eb] at q;refine⟨_,rfl,a,_,1,y0,rfl,rfl,ha1,at1,eW,fun u hu=>?_⟩;have ku:=smu (o:=HO.tup [y0]) hu;exact q _ _ (k1.trans ku) (.tup (SqT.of pG) (.cons (e0.same ku) .nil))
   | false =>
   refine pK (by decide) ?_;refine⟨_,rfl,a,_,0,.str hd,rfl,rfl,ha1,at0,rfl,_,rfl,?_⟩;by_cases b2:hd="fun"
   · subst b2;refine pL (by simp) ?_;obtain rfl:=lL hm;obtain⟨p0,p1,rfl,s0,_⟩:=cb hshp;obtain⟨is,rfl,_⟩:=s0.2.2.2 rfl;obtain⟨y0,y1,rfl,e0,e1⟩:=ln hxr1;have eb:bi "fun" [PyData.tuple (is.map .int),p1]=is.map .int:=by unfold bi;rw[b1,if_neg (by decide),if_pos rfl];rfl
     rw[eb] at q;exact⟨_,rfl,a,_,1,_,rfl,rfl,ha1,at1,q _ _ k1 e0⟩
   · refine pK (by simpa using b2) ?_;have eb:bi hd ps=[]:=by unfold bi;rw[b1,if_neg (by decide),if_neg b2]
     rw[eb] at q;refine⟨ef,fun u hu=>?_⟩;exact q _ _ (k1.trans (smu hu)) (.tup (SqT.of pG) .nil)
end
end K12
namespace L2
open PySem PySem.Spec PyProof.Rows
section
variable {X:Cx} {e st:Expr} {te:TE} {tst:TO} {p2 pos:Pos}
def Bh (K:Fg) (te:TE) (tst:TO):TE:=fun σ H Q=>te σ H fun x H1=>tst σ H1 fun o H2=>∃ a xs,o=some (-1)∧x=.ref a∧SqL K H2 a xs∧∀ p,H2 p=none→Q (.ref p) (upd H2 p (.lst xs.reverse))
theorem aQ.reverse':∀ {xs:List V} {us:List Value},aQ xs us→aQ xs.reverse us.reverse
 := by
  intro xs us h
  induction h with
  | nil=>exact .nil
  | cons r t ih =>
   rw[List.reverse_cons,List.reverse_cons];exact aQ.append ih (.cons r .nil)
theorem lu (he:PE X e te) (hst:PO X (some st) tst):PE X (.Subscript e (.Slice none none (some st) p2) pos) (Bh X.K te tst):=by
 intro pins s σ H Q I h;refine Subscript_ (thn (he pins s σ H _ I h) fun v s1 zz122=>?_);obtain⟨x,H1,I1,r1,q1⟩:=zz122;refine wpAny_Slice ?_;rw[evalPart_none];refine wP (wP (thn (hst pins s1 σ H1 _ I1 q1) ?_));rintro vk s3 ⟨o,H3,I3,pk,a,xs,rfl,rfl,hx,q⟩;cases r1;have I4:Inv X pins σ H3 {s3 with heap:=s3.heap.push {cls:=.type "slice",data:=.fields #[.none,.none,vk]}}:=I3.kept (t':=s3.toks) fun b ob q=>hpS _ q;obtain⟨its,r,ht,hz⟩:=I4.list hx;have hlen:=r.length;show wpAny (model X.prog X.w) X.A (subscriptTail e (.Slice none none (some st) p2) (.ref a) (.ref s3.heap.objs.size)) (EP X pins σ Q) X.xe {s3 with heap:=s3.heap.push {cls:=.type "slice",data:=.fields #[.none,.none,vk]}};refine tail_any (ops:=[.ref a,.ref s3.heap.objs.size]) ht.isList.typeIs slot_list_getitem.lookup ?_ (by with_unfolding_all rfl);refine wpAny_getItem_list_slice ht.isList (Heap.IsSliceOf.new ..) .none .none pk (by decide) ?_ (by rw[List.size_toArray] <;> lia);rw[PySem.W.krv_pick];refine⟨.ref _,_,I4.laid (t':=s3.toks) (o:=.lst xs.reverse) (fun b ob q=>hpS _ q) (Nat.le_refl _) ?_,rfl,q _ (I4.hok.fresh (Nat.le_refl _))⟩;exact⟨by rw[List.length_reverse];exact hz,its.reverse,0,r.reverse',Heap.get?_push_size _ rfl⟩
end
end L2
namespace HT
open PySem PySem.Spec PyProof.Rows
section
variable {prog:Program} {w:World} {A:Around} {E:VSP} {s:Shared}
end
end HT
namespace L2
open PySem PySem.Spec PyProof.Rows
section
variable {X:Cx} {e st:Expr} {te:TE} {tst:TO} {p2 pos:Pos}
end
end L2
namespace L2
open PySem PySem.Spec PyProof.Rows PySem.AutoSeq1
section
variable {X:Cx} {o e:Expr} {to:TE} {t:TA} {apos cpos:Pos}
theorem wU (ho:PE X o to) (hbase:attributeBase o "pop" X.env (eval o X.env)=eval o X.env:=by rfl) (hline:(apos.endLine==cpos.line)=true:=by rfl) :
 PE X (.Call (.Attribute o "pop" apos) [] [] cpos) (xA X.K "list" yI to):=vN PySem.F.plainAttrs_list PySem.F.slot_list_pop PySem.F.type_list_pop wb ho hbase hline
end
end L2
namespace P10
open PySem L2
def ca:Nat→PyData→PDs
  | 0,_=>[]
  | n+1,d=>d::((ao d).map (ca n)).flatten
def stk (l:List (Nat×PyData)):PDs:=(l.reverse.map fun p=>ca p.1 p.2).flatten
theorem sh {n:Nat} {d:PyData} (h:WFd n d):1≤(ca n d).length:=by
 cases n with
 | zero=>exact h.elim
 | succ n=>exact Nat.succ_le_succ (Nat.zero_le _)
theorem TDs.rev {K:Fg} {H:Hp} {xs:List V} {ds:PDs} (h:TDs K H xs ds):TDs K H xs.reverse ds.reverse:=by
 induction xs generalizing ds with
 | nil=>cases h;exact .nil
 | cons x r ih =>
  cases h with
  | cons a b =>
   rw[List.reverse_cons,List.reverse_cons];exact (ih b).snoc a
def gK (kvs:List (Key×V)) (i:Int):Int:=match bP kvs (.inl i) with | some (.int j)=>j | _=>i
def cI (g:Int→Int):PyData→PyData
  | .int i=>.int (g i)
  | d=>d
def bA (bs:PDs) (g:Int→Int) (s:Str) (p:PyData):PyData:=if s="bound" then bs.headD p else if s="bounds" then .tuple bs else if s="meant" then cI g p else p
def cu (bs:PDs) (g:Int→Int) (sl:List Str) (ps:PDs):PDs:=List.zipWith (bA bs g) sl ps
def iK (kvs:List (Key×V)):Prop:=∀ i v,bP kvs (.inl i)=some v→∃ j,v=.int j
theorem gc {kvs:List (Key×V)} (h:iK kvs) (i:Int):(bP kvs (.inl i)).getD (.int i)=V.int (gK kvs i):=by
 unfold gK;cases e:bP kvs (.inl i) with
 | none=>rfl
 | some v=>obtain⟨j,rfl⟩:=h i v e;rfl
theorem nj {bs:PDs} {g:Int→Int} {sl:List Str} {ps:PDs} {i:Nat} {s:Str} {p:PyData} (h1:sl[i]?=some s) (h2:ps[i]?=some p):(cu bs g sl ps).take (i+1)=(cu bs g sl ps).take i++[bA bs g s p]:=by
 rw[tAO];congr 1;unfold cu;rw[List.getElem?_zipWith,h1,h2];rfl
end P10
namespace K12
open PySem L2 P10
section
variable {P:Program} {w:World} {K:Fg} {mg:SOV} {base:Heap}
abbrev sWi:Stmt:=top 5
inductive uf (K:Fg) (vs:List V) (H:Hp) (Q:VK):Prop
  | mk (v vb:V) (m:Addr) (d:PyData) (h:Str) (sl:List Str) (ps bs:PDs) (kvs:List (Key×V)) (g0_:vs=[v,vb,.ref m]) (g1_:TD K H v d) (g2_:Nd d h sl ps) (g3_:TD K H vb (.tuple bs)) (g4_:("bound":Str)∈sl→bs≠[]) (g5_:H m=some (.dK kvs)) (g6_:iK kvs) (g7_:∀ v' H',ak H H'→TD K H' v' (.tuple (.str h::cu bs (gK kvs) sl ps))→Q v' H'):uf K vs H Q
def xC (K:Fg):Sp:=fun vs H Q _=>uf K vs H Q
theorem xW:aB ["e","bound","meant","told","slot","part"] ["e","bound","meant"] (a7 sWi):=fsM
theorem yT (D:Def K mg "with_ids" sWi) (T:Blt mg) (C:Glb P w K mg):Fn P w K mg base "with_ids" 1 ["e","bound","meant"] (xC K):=by
 refine D.fn xW (fun vs H Q E h=>?_) (fun _ _ _ _ _ _ us hl=>by obtain⟨a,b,c,rfl⟩:=fO hl;rfl) (fun f cdv A outer s' H vs Q E hr h=>?_)
 · obtain⟨v,vb,m,d,h',sl,ps,bs,kvs,rfl,_⟩:=h;rfl
 · obtain⟨v,vb,m,d,hd,sl,ps,bs,kvs,rfl,td,nd',tb,hbn,hm0,hint,q⟩:=h;obtain⟨rfl,hm,hshp,hfew⟩:=nd';obtain⟨a,xs,rfl,ha,hx⟩:=td.tup_of;obtain⟨b,xb,rfl,hb,hxb⟩:=tb.tup_of;obtain⟨aS,kvS,gS,hS,hkv⟩:=C.slots;obtain⟨r,hr1,hr2⟩:=hkv hd sl hm;have nd:=xW.nd;have tl:=fH hm;have hfl:=Paired.length hshp;obtain⟨x0,xr,rfl,hx0,hxr⟩:∃ x0 xr,xs=x0::xr∧TD K H x0 (.str hd)∧TDs K H xr ps:=by
    cases hx with
    | cons p q=>exact⟨_,_,rfl,p,q⟩
   obtain rfl:=hx0.str_of;have hxl:=hxr.length;have hz0:(1000000:Nat)<sizeLine:=by decide
   have hu:=bX hr;refine⟨_,(pE (pN (i:=3) nd rfl (Or.inl rfl) (ag (pA (aq aF (pv 0) pH (fun _ _=>rfl)) pC)))
 (pE (bp PassesOwn.never rfl (gG rfl T.zip (pA (jr (ju (v:=.ref aS) rfl gS rfl) (aq aF (pv 0) pH (fun _ _=>rfl)) (fun _ _=>rfl)) (pA (cs eY (pv 0) (bH pH) cQ) pC))) (dh rfl (aP (ae (i:=4) nd rfl (Or.inl rfl)) (aP (ae (i:=5) nd rfl (Or.inl rfl)) cE)))
 (pI (aN (pO aV (pv 4) pD (pP _)) (pI (am (aX (pv 3) (pA (aq aF (pv 1) pH (fun _ _=>rfl)) pC)))) (pI (aN (pO aV (pv 4) pD (pP _)) (pI (am (aX (pv 3) (pA (pv 1) pC)))) (pI (aN (pO aV (pv 4) pD (pP _)) (pI (am (aX (pv 3) (pA (dv hu (pv 2) (pv 5) (pv 5) ⟨rfl,rfl,rfl,rfl⟩) pC)))) (pI (am (aX (pv 3) (pA (pv 5) pC)))))))))))
 (pI (az (cg T.tuple (pA (pv 3) pC)))))),?_⟩
   dsimp only[bJ,bN,bM];refine a0 fun rD iB=>?_;refine⟨_,rfl,a,_,0,.str hd,rfl,rfl,ha,pJ (j:=0) rfl,eW,fun W hW=>?_⟩;refine iB _ _ (a0 fun mF iq=>?_);have k1:=smu (o:=HO.lst [V.str hd]) hW;have hW1:(upd H W (.lst [V.str hd])) W=some (.lst [V.str hd]):=pG;generalize upd H W (.lst [V.str hd])=H1 at k1 hW1 ⊢;refine⟨_,rfl,a,_,0,.str hd,rfl,rfl,k1.seqT ha,pJ (j:=0) rfl,aS,kvS,.inr hd,.ref r,rfl,hS,rfl,hr1,_,rfl,_,rfl,a,_,rfl,k1.seqT ha,?_,fun p2 hp2=>?_⟩
   · unfold HT.sIx;simp
   · rw[show (some (1:Int))=some (((1:Nat):Nat):Int) from rfl,cK];have k2:=smu (o:=HO.tup ((V.str hd::xr).drop 1)) hp2;have hp2':(upd H1 p2 (.tup ((V.str hd::xr).drop 1))) p2=some (.tup xr):=pG;have hW2:=k2 _ _ hW1;generalize upd H1 p2 (.tup ((V.str hd::xr).drop 1))=H2 at k2 hp2' hW2 ⊢;refine⟨r,p2,_,_,rfl,hr2 _,SqT.of hp2',?_⟩;show aw _ _ _ _ _ _;have hwl:(cu bs (gK kvs) sl ps).length=ps.length:=by unfold cu;rw[List.length_zipWith,hfl,Nat.min_self]
     refine aw.zipTN (xs:=sl.map V.str) (ys:=xr) (by rw[lMp];exact hfl.trans hxl.symm) (fun i σ Hi=>ak H Hi∧Hi p2=some (.tup xr)∧(∃ ys,Hi W=some (.lst ys)∧TDs K Hi ys (.str hd::(cu bs (gK kvs) sl ps).take i))∧∃ x4 x5,σ=[some (.ref a),some (.ref b),some (.ref m),some (.ref W),x4,x5])
      ⟨k1.trans k2,hp2',⟨_,hW2,.cons (.str _) .nil⟩,_,_,rfl⟩ ?_ ?_ ?_
     · rintro i σ Hi _ ⟨_,h2,_⟩;exact⟨hr2 _,SqT.of h2⟩
     · rintro i x y σ Hi t N_ B_ hN_ hxi hyi ⟨s2,hp,⟨ys,hWi,hys⟩,x4,x5,rfl⟩ ht;rw[gEM] at hxi;obtain⟨slot,hsi,rfl⟩:=oMS.mp hxi;obtain⟨d,hdi,htd⟩:=hxr.get hyi;obtain⟨s0,hs0,hsh⟩:=gF hshp hdi;rw[hsi] at hs0;cases hs0;have k3:=smu (o:=HO.tup [V.str slot,y]) ht;have s3:=s2.trans k3;have dy:=htd.same s3;have hW3:=k3 _ _ hWi;have hp3:=k3 _ _ hp;have hys3:=hys.same k3;have pW:p2≠W:=fun e=>by rw[e,hWi] at hp;cases hp
       have hyl:=hys.length;refine⟨t,_,rfl,SqT.of pG,rfl,_,_,rfl,_,_,rfl,rfl,?_⟩;generalize upd Hi t (.tup [V.str slot,y])=H3 at k3 s3 dy hW3 hp3 hys3 ⊢;have hlen:ys.length<sizeLine:=by
        rw[List.length_cons,lTk,hwl] at hyl;omega
       have hm3:=s3 _ _ hm0;have ty3:tyV K "list" (.ref W) H3:=.inl ⟨rfl,_,SqL.of hW3⟩;have done:∀ u,TD K H3 u (bA bs (gK kvs) slot d)→∀ x4 x5,N_ [some (.ref a),some (.ref b),some (.ref m),some (.ref W),x4,x5] (upd H3 W (.lst (ys++[u]))):=fun u hu x4 x5=>hN_ _ _ ⟨aG s3 hW,by rw[a9 pW];exact hp3,⟨_,pG,by
         rw[nj hsi hdi,← List.cons_append];exact (hys3.snoc hu).tk (bC (.inr ⟨_,hW3⟩))⟩,x4,x5,rfl⟩
       refine⟨_,rfl,rfl,_,rfl,?_⟩;by_cases c1:slot="bound"
       · subst c1;refine pL (by simp) ?_;have hb3:=hxb.same s3;have ne:=hbn (mGE hsi);cases bs with
         | nil=>exact absurd rfl ne
         | cons b0 br =>
          cases hb3 with
          | cons e0 er=>exact⟨_,rfl,ty3,_,rfl,b,_,0,_,rfl,rfl,s3.seqT hb,pJ (j:=0) rfl,W,ys,_,rfl,rfl,hW3,hlen,done _ (by unfold bA;rw[if_pos rfl];exact e0) _ _⟩
       · refine pK (by simpa using c1) ?_;refine⟨_,rfl,rfl,_,rfl,?_⟩;by_cases c2:slot="bounds"
         · subst c2;refine pL (by simp) ?_;exact⟨_,rfl,ty3,_,rfl,W,ys,_,rfl,rfl,hW3,hlen,done _ (by unfold bA;rw[if_neg c1,if_pos rfl];exact .tup (s3.seqT hb) (hxb.same s3)) _ _⟩
         · refine pK (by simpa using c2) ?_;refine⟨_,rfl,rfl,_,rfl,?_⟩;by_cases c3:slot="meant"
           · subst c3;refine pL (by simp) ?_;obtain⟨k,rfl⟩:=hsh.2.1 (by decide +kernel);obtain rfl:=dy.int_of;refine⟨_,rfl,ty3,_,rfl,m,rfl,.inl ⟨kvs,.inl hm3⟩,_,rfl,_,rfl,_,bR.k (k:=.inl k) hm3,W,ys,_,rfl,rfl,hW3,hlen,done _ ?_ _ _⟩;rw[gc hint];unfold bA;rw[if_neg c1,if_neg c2,if_pos rfl];exact .int _
           · refine pK (by simpa using c3) ?_;exact⟨_,rfl,ty3,_,rfl,W,ys,_,rfl,rfl,hW3,hlen,done _ (by unfold bA;rw[if_neg c1,if_neg c2,if_neg c3];exact dy) _ _⟩
     · rintro σ Hi ⟨s2,_,⟨ys,hWi,hys⟩,x4,x5,rfl⟩;rw[lMp,hfl,← hwl,List.take_length] at hys;refine iq _ _ ⟨_,rfl,W,ys,rfl,.inl ⟨SqL.of hWi,fun F hF=>?_⟩⟩;have k5:=smu (o:=HO.tup ys) hF;exact q _ _ (s2.trans k5) (.tup (SqT.of pG) (hys.same k5))
end
end K12
namespace L2
open PySem PySem.Spec PyProof.Rows
inductive TyT (K:Fg) (H:Hp):V→String→Prop
  | bl (b:Bool):TyT K H (.bl b) "bool"
  | int (i:Int):TyT K H (.int i) "int"
  | str (x:Str):TyT K H (.str x) "str"
  | tup {a:Addr} {ys:List V} (h:SqT K H a ys):TyT K H (.ref a) "tuple"
inductive B1 (K:Fg) (xs:List V) (H:Hp) (Q:VK):Prop
  | mk (x:V) (n T:String) (b:Bool) (h1:xs=[x,.ty T]) (h2:TyT K H x n) (h3:PySem.W.kitOne K (.type n) (.type T)=some b) (q:Q (.bl b) H):B1 K xs H Q
def yM (K:Fg):List V→Hp→VK→Prop:=fun xs H Q=>B1 K xs H Q
theorem om {X:Cx}:fX X (.builtin "isinstance") (yM X.K):=by
 intro pins s σ H xs us Q I rv h;obtain⟨x,n,T,b,rfl,hx,hk,q⟩:=h;obtain⟨u,w',rfl,ru,rw'⟩:=rv.two;cases (show w'=Value.type T from rw');cases hx with
 | bl c=>exact gb I ru (.bl c) hk fun tk=>⟨.bl b,H,I.tok _,rfl,q⟩
 | int i=>exact gb I ru (.int i) hk fun tk=>⟨.bl b,H,I.tok _,rfl,q⟩
 | str y=>exact gb I ru (.str y) hk fun tk=>⟨.bl b,H,I.tok _,rfl,q⟩
 | @tup a ys hs =>
  cases (show u=Value.ref a from ru);obtain⟨its,_,⟨o,h1,h2,_⟩,_⟩:=I.tuple hs;exact PySem.W.kia_one PySem.W.kitx_tuple I.kIn ⟨o,h1,h2⟩ hk (fun z=>nomatch z) fun tk=>⟨.bl b,H,I.tok _,rfl,q⟩
theorem gk {X:Cx} {p pos:Pos} {e:Expr} {es:List Expr} {t:TA} (hm:X.mg "isinstance"=none) (ha:PA X (e::es) t) (hg:Gl X "isinstance":=by rfl)
 (he:starEach (e::es) X.env=(false,eval e X.env)::starEach es X.env:=by rfl) (hpl:(backTo pos (starEach es X.env)).any (·.1)=false:=by rfl) :
 PE X (.Call (.Name "isinstance" p) (e::es) [] pos) (tCB (yM X.K) t):=ic om hg hm gz ha (he:=he) (hpl:=hpl)
theorem cM {K:Fg} {n:String}:PySem.W.kitOne K (.type n) (.type n)=some true:=by unfold PySem.W.kitOne;rw[if_pos (by simp)]
end L2
namespace P10
open PySem L2
theorem tV {h:Str} {sl:List Str} (m:(h,sl)∈tbl) {s:Str} (hs:s∈sl):s="one"∨s="many"∨s∈(["number","meant","bound","place"]:List Str)∨s∈(["op","word"]:List Str)∨s="bounds":=by
 have:∀ p∈tbl,∀ s∈p.2,s="one"∨s="many"∨s∈(["number","meant","bound","place"]:List Str)∨s∈(["op","word"]:List Str)∨s="bounds":=by decide +kernel
 exact this _ m _ hs
inductive AT (s:Str) (p:PyData):Prop
  | int (i:Int) (e:p=.int i) (k:ba s p=[])
  | str (x:Str) (e:p=.str x) (k:ba s p=[])
  | nil (e:p=.tuple []) (k:ba s p=[])
  | ids (i:Int) (r:PDs) (e:p=.tuple (.int i::r)) (k:ba s p=[])
  | one (h:Str) (r:PDs) (e:p=.tuple (.str h::r)) (k:ba s p=[p])
  | many (q r:PDs) (e:p=.tuple (.tuple q::r)) (k:ba s p=.tuple q::r)
theorem nV {sl:List Str} {ps:PDs} {i:Nat} {x:PyData} (h:x∈aD (sl.take i) (ps.take i)):x∈aD sl ps:=by
 induction i generalizing sl ps with
 | zero=>cases h
 | succ i ih =>
  cases sl with
  | nil=>cases h
  | cons s sl =>
   cases ps with
   | nil=>cases h
   | cons p ps =>
    rw[bE];rw[List.take_succ_cons,List.take_succ_cons,bE] at h
    rcases mAp.mp h with z | z
    · exact List.mem_append_left _ z
    · exact List.mem_append_right _ (ih z)
theorem WFd.form {n:Nat} {d:PyData} (h:WFd n d):∃ x r,d=.tuple (.str x::r):=by
 cases n with
 | zero=>exact h.elim
 | succ n=>obtain⟨h',sl,ps,nd,_⟩:=h;exact⟨_,_,nd.eq⟩
theorem yR {n:Nat} {h:Str} {sl:List Str} (hm:(h,sl)∈tbl) {i:Nat} {s:Str} {p:PyData} (h1:sl[i]?=some s) (hs:Shp s p) (hk:∀ x∈ba s p,WFd n x):AT s p:=by
 rcases tV hm (mGE h1) with rfl | rfl | z | z | rfl
 · obtain⟨x,r,rfl⟩:=(hk p (by rw[mI];exact mSg.mpr rfl)).form;exact .one x r rfl rfl
 · obtain⟨l,rfl⟩:=hs.1 rfl;cases l with
   | nil=>exact .nil rfl rfl
   | cons q r =>
    obtain⟨x,r',rfl⟩:=(hk q (by rw[wo];exact mCS)).form;exact .many _ _ rfl rfl
 · obtain⟨i,rfl⟩:=hs.2.1 z;exact .int i rfl (iH (fun e=>by rw[e] at z;revert z;decide +kernel) (fun e=>by rw[e] at z;revert z;decide +kernel) _)
 · obtain⟨x,rfl⟩:=hs.2.2.1 z;exact .str x rfl (iH (fun e=>by rw[e] at z;revert z;decide +kernel) (fun e=>by rw[e] at z;revert z;decide +kernel) _)
 · obtain⟨is,rfl,_⟩:=hs.2.2.2 rfl;cases is with
   | nil=>exact .nil rfl (iH (by decide +kernel) (by decide +kernel) _)
   | cons i r=>exact .ids i _ rfl (iH (by decide +kernel) (by decide +kernel) _)
end P10
namespace K12
open PySem L2 P10
structure mW (K:Fg):Prop where
  it:PySem.W.kitOne K (.type "int") (.type "tuple")=some false
  st:PySem.W.kitOne K (.type "str") (.type "tuple")=some false
  ts:PySem.W.kitOne K (.type "tuple") (.type "str")=some false
  is:PySem.W.kitOne K (.type "int") (.type "str")=some false
section
variable {P:Program} {w:World} {K:Fg} {mg:SOV} {base:Heap}
abbrev sLp:Stmt:=top 35
inductive uC (K:Fg) (vs:List V) (H:Hp) (Q:VK):Prop
  | mk (v:V) (d:PyData) (n:Nat) (g0_:vs=[v]) (g1_:TD K H v d) (g2_:WFd (n+1) d) (g3_:∀ L H' zs,ak H H'→H L=none→H' L=some (.lst zs)→TDs K H' zs (ao d)→Q (.ref L) H'):uC K vs H Q
def oV (K:Fg):Sp:=fun vs H Q _=>uC K vs H Q
theorem ym:aB ["_law_e","_law_found","_law_thing"] ["_law_e"] (a7 sLp):=fsM
theorem zq (D:Def K mg "_law_parts" sLp) (T:Blt mg) (kd:mW K):Fn P w K mg base "_law_parts" 1 ["_law_e"] (oV K):=by
 refine D.fn ym (fun vs H Q E h=>?_) (fun _ _ _ _ _ _ us hl=>by obtain⟨a,rfl⟩:=eK hl;rfl) (fun f cdv A outer s' H vs Q E hr h=>?_)
 · obtain⟨v,d,n,rfl,_⟩:=h;rfl
 · obtain⟨v,d,n,rfl,td,wf,q⟩:=h;obtain⟨hd,sl,ps,nde,hkid⟩:=wf;have hkids:=nde.kids;rw[hkids] at q;obtain⟨rfl,hm,hshp,hfew⟩:=nde;obtain⟨a,xs,rfl,ha,hx⟩:=td.tup_of;have nd:=ym.nd;have hfl:=Paired.length hshp;have tl:=fH hm;obtain⟨x0,xr,rfl,hx0,hxr⟩:∃ x0 xr,xs=x0::xr∧TD K H x0 (.str hd)∧TDs K H xr ps:=by
    cases hx with
    | cons p q=>exact⟨_,_,rfl,p,q⟩
   have hxl:=hxr.length;have hz0:(1000000:Nat)<sizeLine:=by decide
   refine⟨_,(pE (pN (i:=1) nd rfl (Or.inl rfl) (ag pC))
 (pE (bp PassesOwn.never rfl (eZ (cs eY (pv 0) (bH pH) cQ)) (ae (i:=2) nd rfl (Or.inl rfl))
 (pI (aN (PW.pt (b8 (cV (gk T.isinstance (pA (pv 2) (pA (eo (v:=.ty "tuple") rfl T.tuple cw rfl) pC)))) (b8 (pO iW (bc T.len (pA (pv 2) pC)) pH (pP _)) (bn (cV (gk T.isinstance (pA (aq aF (pv 2) pH (fun _ _=>rfl)) (pA (eo (v:=.ty "str") rfl T.str gh rfl) pC)))))))) (pI (am (aX (pv 1) (pA (pv 2) pC)))) (pI (aN (PW.pt (b8 (cV (gk T.isinstance (pA (pv 2) (pA (eo (v:=.ty "tuple") rfl T.tuple cw rfl) pC)))) (b8 (pO iW (bc T.len (pA (pv 2) pC)) pH (pP _)) (bn (cV (gk T.isinstance (pA (aq aF (pv 2) pH (fun _ _=>rfl)) (pA (eo (v:=.ty "tuple") rfl T.tuple cw rfl) pC)))))))) (pI (pN (i:=1) nd rfl (Or.inl rfl) (aC fL (pv 1) (wZ T.list (pA (pv 2) pC))))) aE)))))
 (pI (az (pv 1))))),?_⟩
   dsimp only[bJ,bN,bM];refine a0 fun rD iB=>?_;refine⟨ef,fun F0 hF=>?_⟩;refine iB _ _ (a0 fun mF iq=>?_);have k1:=smu (o:=HO.lst []) hF;have hF1:(upd H F0 (.lst [])) F0=some (.lst []):=pG;generalize upd H F0 (.lst [])=H1 at k1 hF1 ⊢;refine⟨_,rfl,_,rfl,a,_,rfl,k1.seqT ha,?_,fun p2 hp2=>?_⟩
   · unfold HT.sIx;simp
   · rw[show (some (1:Int))=some (((1:Nat):Nat):Int) from rfl,cK];have k2:=smu (o:=HO.tup ((x0::xr).drop 1)) hp2;have hp2':(upd H1 p2 (.tup ((x0::xr).drop 1))) p2=some (.tup xr):=pG;have hF2:=k2 _ _ hF1;generalize upd H1 p2 (.tup ((x0::xr).drop 1))=H2 at k2 hp2' hF2 ⊢;refine⟨p2,rfl,⟨_,SqT.of hp2'⟩,?_⟩;show aw _ _ _ _ _ _;refine aw.byN (bT (xs:=xr)) (fun i σ Hi=>ak H Hi∧Hi p2=some (.tup xr)∧∃ (F:Addr) (zs:List V) (x2:Option V),σ=[some (.ref a),some (.ref F),x2]∧H F=none∧Hi F=some (.lst zs)∧TDs K Hi zs (aD (sl.take i) (ps.take i)))
      ⟨k1.trans k2,hp2',F0,[],_,rfl,hF,hF2,.nil⟩ (fun i σ Hi _ z=>SqT.of z.2.1) ?_ ?_
     · rintro i y σ Hi N_ B_ hN_ hB_ hyi ⟨sm,hp,F,zs,x2,rfl,hFH,hFi,hzs⟩;obtain⟨p,hpi,htd⟩:=hxr.get hyi;obtain⟨slot,hsi,hsh⟩:=gF hshp hpi;have dy:=htd.same sm;have st:=ff hsi hpi;have hle:=im (sl:=sl) (ps:=ps) (i+1);have hzl:=hzs.length;rw[st,lAp] at hle;have pF:p2≠F:=fun e=>by rw[e,hFi] at hp;cases hp
       have hk:∀ x∈ba slot p,WFd n x:=fun x hx=>hkid x (by
         have e1:x∈aD (sl.take (i+1)) (ps.take (i+1)):=by rw[st];exact List.mem_append_right _ hx
         exact nV e1)
       have none_:ba slot p=[]→N_ [some (.ref a),some (.ref F),some y] Hi:=fun e=>hN_ _ _ ⟨sm,hp,F,zs,_,rfl,hFH,hFi,by rw[st,e,List.append_nil];exact hzs⟩;cases yR hm hsi hsh hk with
       | int j e k =>
        subst e;obtain rfl:=dy.int_of;exact⟨_,rfl,_,"int","tuple",false,rfl,.int j,kd.it,false,rfl,aZ (aZ ⟨_,rfl,_,"int","tuple",false,rfl,.int j,kd.it,false,rfl,aZ (aZ (none_ k))⟩)⟩
       | str x e k =>
        subst e;obtain rfl:=dy.str_of;exact⟨_,rfl,_,"str","tuple",false,rfl,.str x,kd.st,false,rfl,aZ (aZ ⟨_,rfl,_,"str","tuple",false,rfl,.str x,kd.st,false,rfl,aZ (aZ (none_ k))⟩)⟩
       | nil e k =>
        subst e;obtain⟨c,ys,rfl,hc,hys⟩:=dy.tup_of;cases hys;exact⟨_,rfl,_,"tuple","tuple",true,rfl,.tup hc,cM,true,rfl,bx ⟨_,rfl,c,_,rfl,.inr hc,_,_,rfl,rfl,_,rfl,pK (by simp) (aZ ⟨_,rfl,_,"tuple","tuple",true,rfl,.tup hc,cM,true,rfl,bx ⟨_,rfl,c,_,rfl,.inr hc,_,_,rfl,rfl,_,rfl,pK (by simp) (aZ (none_ k))⟩⟩)⟩⟩
       | ids j r e k =>
        subst e;obtain⟨c,ys,rfl,hc,hys⟩:=dy.tup_of;cases hys with
        | @cons y0 _ yr _ e0 er =>
         obtain rfl:=e0.int_of;have pos:decide ((0:Int)<(((V.int j::yr).length:Nat):Int))=true:=decide_eq_true (by show (0:Int)<((yr.length+1:Nat):Int);omega);exact⟨_,rfl,_,"tuple","tuple",true,rfl,.tup hc,cM,true,rfl,bx ⟨_,rfl,c,_,rfl,.inr hc,_,_,rfl,rfl,_,rfl,pL pos ⟨_,rfl,c,_,0,_,rfl,rfl,hc,pJ (j:=0) rfl,_,"int","str",false,rfl,.int j,kd.is,false,rfl,aZ ⟨_,rfl,_,"tuple","tuple",true,rfl,.tup hc,cM,true,rfl,bx ⟨_,rfl,c,_,rfl,.inr hc,_,_,rfl,rfl,_,rfl,pL pos ⟨_,rfl,c,_,0,_,rfl,rfl,hc,pJ (j:=0) rfl,_,"int","tuple",false,rfl,.int j,kd.it,false,rfl,aZ (none_ k)⟩⟩⟩⟩⟩⟩
       | one h r e k =>
        subst e;obtain⟨c,ys,rfl,hc,hys⟩:=dy.tup_of;cases hys with
        | @cons y0 _ yr _ e0 er =>
         obtain rfl:=e0.str_of;have pos:decide ((0:Int)<(((V.str h::yr).length:Nat):Int))=true:=decide_eq_true (by show (0:Int)<((yr.length+1:Nat):Int);omega);refine⟨_,rfl,_,"tuple","tuple",true,rfl,.tup hc,cM,true,rfl,bx ⟨_,rfl,c,_,rfl,.inr hc,_,_,rfl,rfl,_,rfl,pL pos ⟨_,rfl,c,_,0,_,rfl,rfl,hc,pJ (j:=0) rfl,_,"str","str",true,rfl,.str h,cM,true,rfl,bx ⟨_,rfl,.inl ⟨rfl,_,SqL.of hFi⟩,_,rfl,F,zs,_,rfl,rfl,hFi,by omega,hN_ _ _ ⟨aG sm hFH,by rw[a9 pF];exact hp,F,_,_,rfl,hFH,pG,?_⟩⟩⟩⟩⟩;rw[st,k];exact (hzs.snoc dy).tk (bC (.inr ⟨_,hFi⟩))
       | many q' r e k =>
        subst e;obtain⟨c,ys,rfl,hc,hys⟩:=dy.tup_of;have hyl:=hys.length;rw[k] at hle;cases hys with
        | @cons y0 _ yr _ e0 er =>
         obtain⟨c0,ys0,rfl,hc0,_⟩:=e0.tup_of;have pos:decide ((0:Int)<(((V.ref c0::yr).length:Nat):Int))=true:=decide_eq_true (by show (0:Int)<((yr.length+1:Nat):Int);omega);refine⟨_,rfl,_,"tuple","tuple",true,rfl,.tup hc,cM,true,rfl,bx ⟨_,rfl,c,_,rfl,.inr hc,_,_,rfl,rfl,_,rfl,pL pos ⟨_,rfl,c,_,0,_,rfl,rfl,hc,pJ (j:=0) rfl,_,"tuple","str",false,rfl,.tup hc0,kd.ts,false,rfl,aZ ⟨_,rfl,_,"tuple","tuple",true,rfl,.tup hc,cM,true,rfl,bx ⟨_,rfl,c,_,rfl,.inr hc,_,_,rfl,rfl,_,rfl,pL pos ⟨_,rfl,c,_,0,_,rfl,rfl,hc,pJ (j:=0) rfl,_,"tuple","tuple",true,rfl,.tup hc0,cM,true,rfl,bx ⟨_,rfl,_,rfl,c,_,rfl,.inr hc,fun l hl=>?_⟩⟩⟩⟩⟩⟩⟩;have kl:=smu (o:=HO.lst (V.ref c0::yr)) hl;have hFl:=kl _ _ hFi;have hpl:=kl _ _ hp;have hzl2:=hzs.same kl;have hall:=(TDs.cons e0 er).same kl;have sml:=sm.trans kl;refine⟨F,l,zs,V.ref c0::yr,rfl,rfl,SqL.of hFl,SqL.of pG,by omega,fun p' hp'=>?_⟩;have kp:=smu (o:=HO.lst (zs++V.ref c0::yr)) hp';have hH:H p'=none:=by
          cases hh:H p' with
          | none=>rfl
          | some o=>rw[sml _ _ hh] at hp';cases hp'
         refine hN_ _ _ ⟨sml.trans kp,kp _ _ hpl,p',_,_,rfl,hH,pG,?_⟩;rw[st,k];exact (hzl2.same kp).app (hall.same kp)
     · rintro σ Hi ⟨sm,hp,F,zs,x2,rfl,hFH,hFi,hzs⟩;rw[hxl,List.take_length,← hfl,List.take_length] at hzs;exact iq _ _ ⟨_,rfl,q F Hi zs sm hFH hFi hzs⟩
end
end K12
namespace L2
open PySem PySem.Spec PyProof.Rows PyProof.Rows
section
variable {X:Cx} {p pos:Pos} {e:Expr} {es:List Expr} {t:TA}
inductive rB (xs:List V) (H:Hp) (Q:VK):Prop
  | mk (a:Addr) (kvs:List (Key×V)) (h1:xs=[.ref a]) (h2:H a=some (.dK kvs)) (q:∀ p,H p=none→Q (.ref p) (upd H p (.dK kvs))):rB xs H Q
def pX:List V→Hp→VK→Prop:=fun xs H Q=>rB xs H Q
theorem lR:fX X (.type "dict") pX:=by
 intro pins s σ H xs us Q I rv h;obtain⟨a,kvs,rfl,e,q⟩:=h;obtain⟨u,rfl,ru⟩:=rv.one;cases ru;obtain⟨z,hd,vs,rel,dd⟩:=kO I.hok e;have hz:vs.length≤sizeLine:=by rw[← Paired.length rel];exact z
 refine kt_call_dict (knd:=ax X.prog X.w) hd dd hz fun h' dd' sb=>?_;refine⟨.ref _,_,I.laid (a:=s.heap.objs.size) (o:=.dK kvs) (h':=h') (t':=s.toks) (fun b ob eb=>sb.extBut b ob (Nat.ne_of_lt (Heap.lt_size eb)) (hpS _ eb)) (Nat.le_refl _) (jD z ?_ rel dd'),rfl,q _ (I.hok.fresh (Nat.le_refl _))⟩;exact beq_eq_false_iff_ne.mpr (Ne.symm (Nat.ne_of_lt I.big))
theorem lV:bootBuiltins "dict"=some (.type "dict"):=by decide +kernel
theorem mY (hm:X.mg "dict"=none) (ha:PA X (e::es) t) (hg:Gl X "dict":=by rfl)
 (he:starEach (e::es) X.env=(false,eval e X.env)::starEach es X.env:=by rfl) (hpl:(backTo pos (starEach es X.env)).any (·.1)=false:=by rfl) :
 PE X (.Call (.Name "dict" p) (e::es) [] pos) (tCB pX t):=ej lR hg hm lV ha (he:=he) (hpl:=hpl)
end
end L2
namespace P10
open PySem L2
def bD (kvs:List (Key×V)):List Int→List Int→List (Key×V)
  | i::is,j::js=>bD (bS kvs (.inl i) (.int j)) is js
  | _,_=>kvs
theorem kw {kvs:List (Key×V)} {is js:List Int} {k:Nat} {i j:Int} (hl:is.length=js.length) (h1:is[k]?=some i) (h2:js[k]?=some j):bD kvs (is.take (k+1)) (js.take (k+1))=bS (bD kvs (is.take k) (js.take k)) (.inl i) (.int j):=by
 induction k generalizing kvs is js with
 | zero =>
  cases is with
  | nil=>cases h1
  | cons a is =>
   cases js with
   | nil=>cases h2
   | cons b js=>cases h1;cases h2;rfl
 | succ k ih =>
  cases is with
  | nil=>cases h1
  | cons a is =>
   cases js with
   | nil=>cases h2
   | cons b js =>
    show bD (bS kvs (.inl a) (.int b)) (is.take (k+1)) (js.take (k+1))=bS (bD (bS kvs (.inl a) (.int b)) (is.take k) (js.take k)) (.inl i) (.int j);exact ih (Nat.succ.inj hl) h1 h2
theorem gY (kvs:List (Key×V)) (is js:List Int):(bD kvs is js).length≤kvs.length+is.length:=by
 induction is generalizing kvs js with
 | nil=>cases js <;> exact Nat.le_add_right _ _
 | cons i is ih =>
  cases js with
  | nil=>exact Nat.le_add_right _ _
  | cons j js =>
   have h1:=ih (bS kvs (.inl i) (.int j)) js;have h2:=bq kvs (.inl i:Key) (.int j);show (bD (bS kvs (.inl i) (.int j)) is js).length≤kvs.length+(is.length+1);omega
end P10
namespace K12
open PySem L2 P10
section
variable {P:Program} {w:World} {K:Fg} {mg:SOV} {base:Heap}
abbrev sWe:Stmt:=top 9
inductive ug (K:Fg) (vs:List V) (H:Hp) (Q:VK):Prop
  | mk (m:Addr) (v1 v2:V) (is js:List Int) (kvs:List (Key×V)) (g0_:vs=[.ref m,v1,v2]) (g1_:H m=some (.dK kvs)) (g2_:TD K H v1 (.tuple (is.map .int))) (g3_:TD K H v2 (.tuple (js.map .int))) (g4_:is.length=js.length) (g5_:kvs.length+is.length≤900000) (g6_:∀ D H',ak H H'→H' D=some (.dK (bD kvs is js))→Q (.ref D) H'):ug K vs H Q
def xD (K:Fg):Sp:=fun vs H Q _=>ug K vs H Q
theorem xX:aB ["table","ids","told","entries","number","thing"] ["table","ids","told"] (a7 sWe):=fsM
theorem yU (D:Def K mg "with_entries" sWe) (T:Blt mg) (td:mg "dict"=none):Fn P w K mg base "with_entries" 1 ["table","ids","told"] (xD K):=by
 refine D.fn xX (fun vs H Q E h=>?_) (fun _ _ _ _ _ _ us hl=>by obtain⟨a,b,c,rfl⟩:=fO hl;rfl) (fun f cdv A outer s' H vs Q E hr h=>?_)
 · obtain⟨m,v1,v2,is,js,kvs,rfl,_⟩:=h;rfl
 · obtain⟨m,v1,v2,is,js,kvs,rfl,hm0,t1,t2,hl,hsz,q⟩:=h;obtain⟨a,xs,rfl,ha,hx⟩:=t1.tup_of;obtain⟨b,ys,rfl,hb,hy⟩:=t2.tup_of;have nd:=xX.nd;have hu:=bX hr;have hz0:(1000000:Nat)<sizeLine:=by decide
   have hxl:=hx.length;have hyl:=hy.length;rw[lMp] at hxl hyl;refine⟨_,(pE (aN (gZ (ky (pv 1) (by intro _;rfl))) (pI (az (pv 0))) aE)
 (pE (pN (i:=3) nd rfl (Or.inl rfl) (mY td (pA (pv 0) pC)))
 (pE (bp PassesOwn.never rfl (gG rfl T.zip (pA (pv 1) (pA (pv 2) pC))) (dh rfl (aP (ae (i:=4) nd rfl (Or.inl rfl)) (aP (ae (i:=5) nd rfl (Or.inl rfl)) cE)))
 (pI (bg hu (pv 3) (pv 4) (pv 5) rfl)))
 (pI (az (pv 3)))))),?_⟩
   dsimp only[bJ,bN,bM];refine a0 fun rD iB=>?_;refine⟨_,rfl,_,.inr (.inl ⟨xs,ha,rfl⟩),?_⟩;by_cases his:is=[]
   · subst his;have e1:xs=[]:=List.eq_nil_of_length_eq_zero hxl;have e2:js=[]:=List.eq_nil_of_length_eq_zero hl.symm;subst e1;subst e2;exact pL rfl ⟨_,rfl,q m H (ak.refl _) hm0⟩
   · have e1:(!(!xs.isEmpty))=false:=by
      cases xs with
      | nil=>exact absurd (List.eq_nil_of_length_eq_zero hxl.symm) his
      | cons x r=>rfl
     refine pK (by rw[e1];decide) ?_;refine iB _ _ (a0 fun mF iq=>?_);refine⟨_,rfl,m,kvs,rfl,hm0,fun p hp=>?_⟩;refine iq _ _ (a0 fun sI kK=>?_);have k1:=smu (o:=HO.dK kvs) hp;have hp1:(upd H p (.dK kvs)) p=some (.dK kvs):=pG;generalize upd H p (.dK kvs)=H1 at k1 hp1 ⊢;refine⟨_,rfl,_,rfl,a,b,_,_,rfl,k1.seqT ha,k1.seqT hb,?_⟩;show aw _ _ _ _ _ _;refine aw.zipTN (xs:=xs) (ys:=ys) (by omega) (fun k σ Hi=>ak H Hi∧Hi p=some (.dK (bD kvs (is.take k) (js.take k)))∧∃ x4 x5,σ=[some (.ref m),some (.ref a),some (.ref b),some (.ref p),x4,x5])
      ⟨k1,hp1,_,_,rfl⟩ ?_ ?_ ?_
     · rintro k σ Hi _ ⟨s2,_,_⟩;exact⟨s2.seqT ha,s2.seqT hb⟩
     · rintro k x y σ Hi t N_ B_ hN_ hxk hyk ⟨s2,hpi,x4,x5,rfl⟩ ht;obtain⟨d,hdk,hd⟩:=hx.get hxk;obtain⟨e,hek,he⟩:=hy.get hyk;rw[gEM] at hdk hek;obtain⟨i,hi,rfl⟩:=oMS.mp hdk;obtain⟨j,hj,rfl⟩:=oMS.mp hek;obtain rfl:=hd.int_of;obtain rfl:=he.int_of;have k3:=smu (o:=HO.tup [V.int i,V.int j]) ht;have hp3:=k3 _ _ hpi;have hlen:(bD kvs (is.take k) (js.take k)).length<sizeLine:=by
        have h1:=gY kvs (is.take k) (js.take k);rw[lTk] at h1;omega
       refine⟨t,_,rfl,SqT.of pG,rfl,_,_,rfl,_,_,rfl,rfl,?_⟩;refine⟨_,rfl,_,rfl,_,rfl,p,_,rfl,dk.k (k:=.inl i) hp3 hlen,hN_ _ _ ⟨aG (s2.trans k3) hp,?_,_,_,rfl⟩⟩;rw[kw hl hi hj];exact pG
     · rintro σ Hi ⟨s2,hpi,x4,x5,rfl⟩;rw[hxl,List.take_length,hl,List.take_length] at hpi;exact kK _ _ ⟨_,rfl,q p Hi s2 hpi⟩
end
end K12
namespace P10
open PySem L2
def dn (built:PDs) (x:PyData):PDs :=
  built.take (built.length-(ao x).length)++[gJ ((built.drop (built.length-(ao x).length)).reverse) x]
def b7 (f:PyData→PyData):Nat→PyData→PyData
  | 0,d=>d
  | n+1,d=>gJ ((ao d).map (b7 f n)) (f d)
theorem lp {built us:PDs} {x:PyData} (h:us.length=(ao x).length):dn (built++us.reverse) x=built++[gJ us x]:=by
 have e:(built++us.reverse).length-(ao x).length=built.length:=by rw[lAp,List.length_reverse,h,Nat.add_sub_cancel]
 unfold dn;rw[e,List.take_left,List.drop_left,List.reverse_reverse]
theorem qm (bs:PDs) (g:Int→Int) (s:Str) (p:PyData):ba s (bA bs g s p)=ba s p:=by
 unfold bA;by_cases h1:s="bound"
 · subst h1;rw[if_pos rfl,iH (by decide +kernel) (by decide +kernel),iH (by decide +kernel) (by decide +kernel)]
 · rw[if_neg h1];by_cases h2:s="bounds"
   · subst h2;rw[if_pos rfl,iH (by decide +kernel) (by decide +kernel),iH (by decide +kernel) (by decide +kernel)]
   · rw[if_neg h2];by_cases h3:s="meant"
     · subst h3;rw[if_pos rfl,iH (by decide +kernel) (by decide +kernel),iH (by decide +kernel) (by decide +kernel)]
     · rw[if_neg h3]
theorem fP (bs:PDs) (g:Int→Int):∀ (sl:List Str) (ps:PDs),aD sl (cu bs g sl ps)=aD sl ps:=by
 intro sl
 induction sl with
 | nil=>intro ps;cases ps <;> rfl
 | cons s sl ih =>
  intro ps;cases ps with
  | nil=>rfl
  | cons p ps =>
   show aD (s::sl) (bA bs g s p::cu bs g sl ps)=_;rw[bE,bE,qm,ih]
theorem rP {is:List Int} {g:Int→Int} {s:Str} {p:PyData} (hb:s="bound"→is≠[]) (h3:is.length≤3) (h:Shp s p):Shp s (bA (is.map .int) g s p):=by
 unfold bA;by_cases h1:s="bound"
 · rw[if_pos h1];have ne:=hb h1;subst h1;cases is with
   | nil=>exact absurd rfl ne
   | cons i r=>exact⟨fun z=>absurd z (by decide +kernel),fun _=>⟨i,rfl⟩,fun z=>absurd z (by decide +kernel),fun z=>absurd z (by decide +kernel)⟩
 · rw[if_neg h1];by_cases h2:s="bounds"
   · rw[if_pos h2];subst h2;exact⟨fun z=>absurd z (by decide +kernel),fun z=>absurd z (by decide +kernel),fun z=>absurd z (by decide +kernel),fun _=>⟨is,rfl,h3⟩⟩
   · rw[if_neg h2];by_cases h3:s="meant"
     · rw[if_pos h3];subst h3;obtain⟨i,rfl⟩:=h.2.1 (by decide +kernel);exact⟨fun z=>absurd z (by decide +kernel),fun _=>⟨g i,rfl⟩,fun z=>absurd z (by decide +kernel),fun z=>absurd z (by decide +kernel)⟩
     · rw[if_neg h3];exact h
theorem Nd.wid {d:PyData} {h:Str} {sl:List Str} {ps:PDs} (n:Nd d h sl ps) {is:List Int} (g:Int→Int) (hb:("bound":Str)∈sl→is≠[]) (hb3:is.length≤3):Nd (.tuple (.str h::cu (is.map .int) g sl ps)) h sl (cu (is.map .int) g sl ps):=by
 refine⟨rfl,n.mem,?_,by rw[fP];exact n.few⟩;have gen:∀ {sl:List Str} {ps:PDs},Paired Shp sl ps→(("bound":Str)∈sl→is≠[])→Paired Shp sl (cu (is.map .int) g sl ps):=by
  intro sl ps h
  induction h with
  | nil=>intro _;exact .nil
  | cons r t ih=>exact fun hb=>.cons (rP (fun e=>hb (by rw[e];exact mCS)) hb3 r) (ih fun z=>hb (mCM _ z))
 exact gen n.shp hb
theorem sY {α:Type} {b:Nat}:∀ (ls:List (List α)),(∀ l∈ls,l.length≤b)→ls.flatten.length≤ls.length*b:=by
 intro ls
 induction ls with
 | nil=>intro _;exact Nat.zero_le _
 | cons l ls ih =>
  intro h;have h1:=h l mCS;have h2:=ih fun x hx=>h x (mCM _ hx);rw[List.flatten_cons,lAp,List.length_cons,Nat.succ_mul];omega
theorem sr {n:Nat} {d:PyData} (h:WFd n d):(ca n d).length≤9 ^ n:=by
 induction n generalizing d with
 | zero=>exact h.elim
 | succ n ih =>
  have hk:=h;obtain⟨h',sl,ps,nd,_⟩:=h;have f8:=nd.few;rw[← nd.kids] at f8;have h1:=sY (b:=9 ^ n) ((ao d).map (ca n)) (fun l hl=>by
    obtain⟨x,hx,rfl⟩:=List.mem_map.mp hl;exact ih (hk.kid hx))
  rw[lMp] at h1;have h2:(ao d).length*9 ^ n≤8*9 ^ n:=Nat.mul_le_mul_right _ f8;have h3:1≤9 ^ n:=Nat.one_le_pow _ _ (by decide);show ((ao d).map (ca n)).flatten.length+1≤9 ^ (n+1);rw[Nat.pow_succ];omega
end P10
namespace HT
open PySem PySem.Spec PyProof.Rows
theorem nZ {α:Type} {g:Nat→Bool} {k n:Nat} (hg:∀ i,g i=(decide ((k:Int)≤(i:Int))&&decide ((i:Int)<(n:Int))&&(((i:Int)-(k:Int)) % 1==0))):∀ (xs:List α) (j:Nat),j+xs.length≤n→((xs.zipIdx j).filterMap fun p=>if g p.2=true then none else some p.1)=xs.take (k-j):=by
 intro xs
 induction xs with
 | nil=>intro j _;simp
 | cons x r ih =>
  intro j hj;rw[List.length_cons] at hj;rw[List.zipIdx_cons,List.filterMap_cons];have e:=hg j;rw[Int.emod_one] at e;by_cases h:k≤j
  · have e1:g j=true:=by rw[e,decide_eq_true (by omega),decide_eq_true (by omega)];rfl
    dsimp only;rw[if_pos e1,ih (j+1) (by omega)];rw[show k-j=0 by omega,show k-(j+1)=0 by omega];rfl
  · have e1:¬ g j=true:=by rw[e,decide_eq_false (by omega)];exact Bool.false_ne_true
    dsimp only;rw[if_neg e1,ih (j+1) (by omega)];rw[show k-j=(k-(j+1))+1 by omega];rfl
theorem oy (n k:Nat) (h:k≤n):sliceBounds (some (k:Int)) none none n=((k:Int),(n:Int),1):=by
 simp only[sliceBounds,Option.getD_none];have h1:¬ ((k:Int)<0):=by omega
 simp only[h1,if_false,show (1:Int)>0 by decide,if_true];congr 1;omega
section
variable {prog:Program} {w:World} {A:Around} {E:VSP} {s:Shared}
theorem jE {l sl:Addr} {its:List Value} {n k:Nat} {t:Tok} {Q:Unit→Shared→Prop} (ho:s.heap.get? l=some {cls:=.type "list",data:=.seq its.toArray n}) (hs:s.heap.IsSliceOf sl (.int (k:Int) t) .none .none) (hk:k≤its.length) (hz:its.length≤sizeLine)
 (h:∀ f:Array Value→Array Value,f its.toArray=(its.take k).toArray→Q () {s with heap:=s.heap.update l (Obj.mapSeq f),toks:=s.toks}):wpAny (model prog w) A (delItem (.ref l) (.ref sl)) Q E s:=by
 obtain⟨os,hos,hcs,hds⟩:=id hs;have hTs:s.TypeIs (.ref sl) "slice":=⟨os,hos,hcs⟩;have hTl:s.TypeIs (.ref l) "list":=⟨_,ho,rfl⟩;refine wpAny_delItem_slot hTl (by decide) F.slot_list_delitem (wpAny_call_entry F.slot_list_delitem hTl F.entry_list_delitem ?_ (F.args_list_delitem_2 _ _));show wpAny _ _ (Builtin.List.listSubscript? (.ref sl)>>=_) _ _ s;refine wB ?_;unfold Builtin.List.listSubscript?;refine wB (wpAny_specialOf hTs slice_no_index ?_);simp only[Option.isNone_none,if_true];refine wP ?_;show wpAny _ _ (typeOf (.ref sl)>>=_) _ _ s;refine wB (wpAny_typeOf hTs ?_);rw[if_neg (by decide)];rw[listSliceParts_eq];refine wB (wB (wpAny_field hos hds (x:=.none) rfl (wB (wpAny_listPart .none ?_))));have hstep:¬ ((rawPart none==rawInt 0)=true):=Bool.false_ne_true;rw[if_neg hstep];refine wB (wpAny_field hos hds (x:=.int (k:Int) t) rfl (wB (wpAny_listPart (.int _ t) ?_)));refine wB (wpAny_field hos hds (x:=.none) rfl (wB (wpAny_listPart .none (wP ?_))));refine wB (m:=Builtin.List.listItems (.ref l)) ?_;unfold Builtin.List.listItems;refine wB (wpAny_seqItems ho rfl (wP ?_));refine wB (wpAny_of_eq (sliceIndices_raw (some (k:Int)) none none its.toArray.size (by simp)) ?_);rw[oy _ _ (by rw[List.size_toArray];exact hk)];dsimp only;refine wB (wpAny_rule ?_);have key:∀ f:Array Value→Array Value,f its.toArray=(its.take k).toArray→wpAny (model prog w) A.in1 (Builtin.List.listUpdate (.ref l) f) (fun _ s'=>Q () s'∧True) E s:=fun f hf=>by
  show wpAny _ _ (updateSeq l f) _ _ s;refine wpAny_updateSeq ho rfl ⟨h f hf,trivial⟩ (hz:=by rw[List.size_toArray];exact hz) (_hz':=?_);rw[hf,List.size_toArray,lTk];omega
 refine wB (wpAny_mono (key _ ?_) (fun _ s1 z=>?_) fun _ _ e=>e)
 · refine congrArg List.toArray ((nZ (k:=k) (n:=its.toArray.size) (fun i=>rfl) its 0 (by rw[List.size_toArray];omega)).trans ?_);rw[Nat.sub_zero]
 · refine wB (wpAny_letGo ?_);exact wP ⟨_,rfl,z.1⟩
end
end HT
namespace L2
open PySem PySem.Spec PyProof.Rows
section
variable {X:Cx} {o lo:Expr} {to:TE} {tl:TO} {tpos pos p2:Pos}
inductive uT (x:V) (o:Option Int) (H:Hp) (Q:Hp→Prop):Prop
  | mk (l:Addr) (xs:List V) (k:Nat) (h1:x=.ref l) (h2:o=some ((k:Nat):Int)) (h3:H l=some (.lst xs)) (h4:k≤xs.length) (q:Q (upd H l (.lst (xs.take k)))):uT x o H Q
def yA (to:TE) (tl:TO):TS:=fun D σ H=>to σ H fun x H1=>tl σ H1 fun o H2=>uT x o H2 (D.nx σ)
theorem sf (ho:PE X o to) (hl:PO X (some lo) tl):PS X (.Delete [.Subscript o (.Slice (some lo) none none p2) tpos] pos) (yA to tl):=by
 intro pins s σ H D I h;refine wpAny_Delete (wpAny_deleteEach_cons (wpAny_delete_Subscript (thn (ho pins s σ H _ I h) fun u s1 zz=>?_)));obtain⟨x,H1,I1,rx,q1⟩:=zz;refine wpAny_Slice (thn (hl pins s1 σ H1 _ I1 q1) fun vl s2 zz2=>?_);rw[evalPart_none];refine wP (wP ?_);obtain⟨o',H2,I2,pl,l,xs,k,rfl,rfl,hH,hk,q⟩:=zz2;cases rx;cases pl;have I4:Inv X pins σ H2 {s2 with heap:=s2.heap.push {cls:=.type "slice",data:=.fields #[.int (k:Int) ‹_›,.none,.none]}}:=I2.kept (t':=s2.toks) fun b ob q=>hpS _ q;obtain⟨z,its,n,r,hl',e⟩:=I4.lstM hH;have rl:=r.length;refine HT.jE e (Heap.IsSliceOf.new ..) (by omega) (by omega) fun f hf=>wpAny_deleteEach_nil ⟨σ,_,I4.lset (its':=its.take k) hH e hf (r.take k) ?_,q⟩;rw[lTk];omega
end
end L2
namespace P10
open PySem L2
def qT:PDs→PDs→Prop
  | [],_=>True
  | x::r,b=>(ao x).length≤b.length∧(∃ h sl ps,Nd x h sl ps)∧qT r (dn b x)
end P10
namespace K12
open PySem L2 P10
section
variable {P:Program} {w:World} {K:Fg} {mg:SOV} {base:Heap}
abbrev sTo:Stmt:=top 6
inductive uk (K:Fg) (vs:List V) (H:Hp) (Q:VK):Prop
  | mk (B:Addr) (xs:List V) (k:Nat) (g0_:vs=[.ref B,.int ((k:Nat):Int)]) (g1_:H B=some (.lst xs)) (g2_:k≤xs.length) (g3_:∀ L H',(∀ b o,b≠B→H b=some o→H' b=some o)→Tk H H'→L≠B→H L=none→H' B=some (.lst (xs.take (xs.length-k)))→H' L=some (.lst (xs.drop (xs.length-k)).reverse)→Q (.ref L) H'):uk K vs H Q
def xF (K:Fg):Sp:=fun vs H Q _=>uk K vs H Q
theorem y4:aB ["built","many","told"] ["built","many"] (a7 sTo):=fsM
theorem yX (D:Def K mg "taken_off" sTo) (T:Blt mg):Fn P w K mg base "taken_off" 1 ["built","many"] (xF K):=by
 refine D.fn y4 (fun vs H Q E h=>?_) (fun _ _ _ _ _ _ us hl=>by obtain⟨a,b,rfl⟩:=il hl;rfl) (fun f cdv A outer s' H vs Q E hr h=>?_)
 · obtain⟨B,xs,k,rfl,_⟩:=h;rfl
 · obtain⟨B,xs,k,rfl,hB,hk,q⟩:=h;have nd:=y4.nd;refine⟨_,(pE (pN (i:=2) nd rfl (Or.inl rfl) (cs gE (pv 0) (bH (aC ck (bc T.len (pA (pv 0) pC)) (pv 1))) cQ))
 (pE (sf (pv 0) (bH (aC ck (bc T.len (pA (pv 0) pC)) (pv 1))))
 (pI (az (lu (pv 2) (bH (iU fY pH))))))),?_⟩
   dsimp only[bJ,bN,bM];have ek:((xs.length:Nat):Int)-((k:Nat):Int)=((xs.length-k:Nat):Int):=by omega
   refine⟨_,rfl,_,rfl,B,xs,rfl,.inl (SqL.of hB),_,rfl,_,_,rfl,rfl,_,rfl,B,xs,rfl,SqL.of hB,fun p hp=>?_⟩;rw[ek,cK];have k1:=smu (o:=HO.lst (xs.drop (xs.length-k))) hp;have pB:p≠B:=fun e=>by rw[e,hB] at hp;cases hp
   have hp1:(upd H p (.lst (xs.drop (xs.length-k)))) p=some (.lst (xs.drop (xs.length-k))):=pG;generalize upd H p (.lst (xs.drop (xs.length-k)))=H1 at k1 hp1 ⊢;have hB1:=k1 _ _ hB;refine⟨_,rfl,_,rfl,B,xs,rfl,.inl (SqL.of hB1),_,rfl,_,_,rfl,rfl,_,rfl,B,xs,xs.length-k,rfl,by rw[ek],hB1,Nat.sub_le _ _,?_⟩;have t2:Tk H1 (upd H1 B (.lst (xs.take (xs.length-k)))):=bC (.inr ⟨_,hB1⟩);have hB2:(upd H1 B (.lst (xs.take (xs.length-k)))) B=some (.lst (xs.take (xs.length-k))):=pG;have hp2:(upd H1 B (.lst (xs.take (xs.length-k)))) p=some (.lst (xs.drop (xs.length-k))):=by rw[a9 pB];exact hp1
   have o2:∀ b o,b≠B→H1 b=some o→(upd H1 B (.lst (xs.take (xs.length-k)))) b=some o:=fun b o hb z=>by rw[a9 hb];exact z
   generalize upd H1 B (.lst (xs.take (xs.length-k)))=H2 at t2 hB2 hp2 o2 ⊢;refine⟨_,rfl,_,rfl,_,rfl,p,_,rfl,rfl,SqL.of hp2,fun L hL=>?_⟩;have k3:=smu (o:=HO.lst (xs.drop (xs.length-k)).reverse) hL;have LB:L≠B:=fun e=>by rw[e,hB2] at hL;cases hL
   refine q L _ (fun b o hb z=>k3 _ _ (o2 b o hb (k1 _ _ z))) ((k1.tk.trans t2).trans k3.tk) LB ?_ (k3 _ _ hB2) pG;cases e:H L with
   | none=>rfl
   | some o=>rw[o2 L o LB (k1 _ _ e)] at hL;cases hL
abbrev sRb:Stmt:=top 7
inductive ut (K:Fg) (vs:List V) (H:Hp) (Q:VK):Prop
  | mk (M:Addr) (zs:List V) (mds:PDs) (r:PyData) (g0_:vs=[.ref M]) (g1_:H M=some (.lst zs)) (g2_:TDs K H zs mds) (g3_:mds.length≤900000) (g4_:qT mds.reverse []) (g5_:mds.reverse.foldl dn []=[r]) (g6_:∀ v H',ak H H'→TD K H' v r→Q v H'):ut K vs H Q
def xJ (K:Fg):Sp:=fun vs H Q _=>ut K vs H Q
theorem yc:aB ["met","built","node"] ["met"] (a7 sRb):=fsM
theorem zb (D:Def K mg "rebuilt" sRb) (T:Blt mg) (dj:Fn P w K mg base "children_of" 1 ["e"] (vp K)) (gC:Fn P w K mg base "with_children" 1 ["e","children"] (xE K)) (kY:Fn P w K mg base "taken_off" 1 ["built","many"] (xF K)):Fn P w K mg base "rebuilt" 2 ["met"] (xJ K):=by
 refine D.fn yc (fun vs H Q E h=>?_) (fun _ _ _ _ _ _ us hl=>by obtain⟨a,rfl⟩:=eK hl;rfl) (fun f cdv A outer s' H vs Q E hr h=>?_)
 · obtain⟨M,zs,mds,r,rfl,_⟩:=h;rfl
 · obtain⟨M,zs,mds,r,rfl,hM,hzs,hml,hsafe,hfold,q⟩:=h;have nd:=yc.nd;have hz0:(1000000:Nat)<sizeLine:=by decide
   have hzl:=hzs.length;refine⟨_,(pE (pN (i:=1) nd rfl (Or.inl rfl) (ag pC))
 (pE (bp PassesOwn.never rfl (bu (lu (pv 0) (bH (iU fY pH)))) (ae (i:=2) nd rfl (Or.inl rfl))
 (pI (am (aX (pv 1) (pA (aa gC (hr.mono (by decide)) rfl (pA (pv 2) (pA (aa kY (hr.mono (by decide)) rfl (pA (pv 1) (pA (bc T.len (pA (aa dj (hr.mono (by decide)) rfl (pA (pv 2) pC)) pC)) pC))) pC))) pC)))))
 (pI (az (aq aH (pv 1) pH (fun _ _=>rfl)))))),?_⟩
   dsimp only[bJ,bN,bM];refine a0 fun rD iB=>?_;refine⟨ef,fun B hB=>?_⟩;refine iB _ _ (a0 fun mF iq=>?_);have k1:=smu (o:=HO.lst []) hB;have hB1:(upd H B (.lst [])) B=some (.lst []):=pG;generalize upd H B (.lst [])=H1 at k1 hB1 ⊢;refine⟨_,rfl,_,rfl,_,rfl,M,zs,rfl,rfl,SqL.of (k1 _ _ hM),fun p hp=>?_⟩;have k2:=smu (o:=HO.lst zs.reverse) hp;have hp2:(upd H1 p (.lst zs.reverse)) p=some (.lst zs.reverse):=pG;have hB2:=k2 _ _ hB1;have pB:p≠B:=fun e=>by rw[e,hB1] at hp;cases hp
   generalize upd H1 p (.lst zs.reverse)=H2 at k2 hp2 hB2 ⊢;refine⟨p,rfl,⟨_,SqL.of hp2⟩,?_⟩;show aw _ _ _ _ _ _;have hrv:=TDs.rev hzs;refine aw.byN (aK (xs:=zs.reverse)) (fun i σ Hi=>ak H Hi∧Hi p=some (.lst zs.reverse)∧(∃ ys bd,Hi B=some (.lst ys)∧TDs K Hi ys bd∧bd=(mds.reverse.take i).foldl dn []∧qT (mds.reverse.drop i) bd∧bd.length≤i)∧∃ x2,σ=[some (.ref M),some (.ref B),x2])
    ⟨k1.trans k2,hp2,⟨[],[],hB2,.nil,rfl,hsafe,Nat.le_refl _⟩,_,rfl⟩ (fun i σ Hi _ z=>SqL.of z.2.1) ?_ ?_
   · rintro i y σ Hi N_ B_ hN_ hB_ hyi ⟨sm,hpi,⟨ys,bd,hBi,hys,hbd,hsf,hbl⟩,x2,rfl⟩;obtain⟨x,hxi,htx⟩:=hrv.get hyi;have hlt:=(gES.mp hxi).1;rw[List.length_reverse] at hlt;rw[List.drop_eq_getElem_cons (by rw[List.length_reverse];exact hlt)] at hsf;have ex:mds.reverse[i]'(by rw[List.length_reverse];exact hlt)=x:=(gES.mp hxi).2;rw[ex] at hsf;obtain⟨hkl,⟨hx,slx,psx,ndx⟩,hsf'⟩:=hsf;have tx:=htx.same sm;have hyl:=hys.length;refine⟨_,rfl,.inl ⟨rfl,_,SqL.of hBi⟩,_,rfl,_,rfl,_,rfl,y,x,hx,slx,psx,rfl,tx,ndx,fun v3 H3 k3 t3=>?_⟩;obtain⟨c,ws,rfl,hc,hws⟩:=t3.tup_of;have hwl:=hws.length;rw[ndx.kids] at hkl;refine⟨c,ws,rfl,.inr hc,B,ys,ws.length,rfl,k3 _ _ hBi,by rw[hwl,hyl];exact hkl,fun L H4 o4 t4 LB hL hB4 hL4=>?_⟩;have TK:=k3.tk.trans t4;have ty4:=(hys.same k3).tk t4;have ewl:ws.length=(ao x).length:=by rw[ndx.kids];exact hwl
     have ks4:=TDs.rev (ty4.drop (ys.length-ws.length));refine⟨y,L,x,hx,slx,psx,_,rfl,tx.tk TK,ndx,⟨_,.inl (SqL.of hL4),ks4⟩,?_,fun v5 H5 k5 t5=>?_⟩
     · rw[List.length_reverse,List.length_drop,← hyl,← hwl];have:ws.length≤ys.length:=by rw[hwl,hyl];exact hkl
       omega
     · have ep:p≠B:=pB;have hp5:H5 p=some (.lst zs.reverse):=k5 _ _ (o4 p _ ep (k3 _ _ hpi));have hB5:=k5 _ _ hB4;have sm5:ak H H5:=fun b o e=>by
        by_cases hb:b=B
        · rw[hb,hB] at e;cases e
        · exact k5 _ _ (o4 b o hb (k3 _ _ (sm _ _ e)))
       have ty5:=ty4.same k5;refine⟨B,_,v5,rfl,rfl,hB5,by rw[lTk];omega,hN_ _ _ ⟨aG sm5 hB,by rw[a9 ep];exact hp5,⟨_,dn bd x,pG,?_,?_,hsf',?_⟩,_,rfl⟩⟩
       · rw[← ndx.put] at t5;unfold dn;rw[← hyl,← ewl];exact ((TDs.take ty5 _).snoc t5).tk (bC (.inr ⟨_,hB5⟩))
       · rw[tAO,hxi,List.foldl_append,← hbd];rfl
       · unfold dn;rw[lAp,lTk];show min _ _+1≤i+1;omega
   · rintro σ Hi ⟨sm,hpi,⟨ys,bd,hBi,hys,hbd,hsf,hbl⟩,x2,rfl⟩;rw[List.length_reverse,hzl,← List.length_reverse (as:=mds),List.take_length,hfold] at hbd;subst hbd;cases hys with
     | cons a b =>
      cases b;exact iq _ _ ⟨_,rfl,B,_,0,_,rfl,rfl,SqL.of hBi,pJ (j:=0) rfl,q _ _ sm a⟩
end
end K12
namespace P10
open PySem L2
def aY (g:Int→Int):PyData→PyData
  | .tuple (.str h::ps)=>.tuple (.str h::cu ((bi h ps).map (cI g)) g (da h) ps)
  | d=>d
theorem dz {d:PyData} {h:Str} {sl:List Str} {ps:PDs} (n:Nd d h sl ps):∃ is:List Int,bi h ps=is.map .int∧is.length≤3∧(("bound":Str)∈sl→is≠[]):=by
 obtain⟨_,hm,hshp,_⟩:=n;unfold bi;cases b1:bb h w2 with
 | true =>
  rw[if_pos rfl];obtain rfl:=mT hm b1;obtain⟨p0,p1,p2,rfl,s0,_,_⟩:=K12.eu hshp;obtain⟨i,rfl⟩:=s0.2.1 (by decide +kernel);exact⟨[i],rfl,by show 1≤3;decide,fun _ z=>nomatch z⟩
 | false =>
  rw[if_neg Bool.false_ne_true];by_cases b2:h="fun"
  · subst b2;rw[if_pos rfl];obtain rfl:=lL hm;obtain⟨p0,p1,rfl,s0,_⟩:=K12.cb hshp;obtain⟨is,rfl,hl⟩:=s0.2.2.2 rfl;exact⟨is,rfl,hl,fun z=>absurd z (by decide +kernel)⟩
  · rw[if_neg b2];refine⟨[],rfl,Nat.zero_le _,fun z=>absurd z ?_⟩;have:∀ p∈tbl,bb p.1 w2=false→("bound":Str)∉p.2:=by decide +kernel
    exact this _ hm b1
theorem Nd.turn {d:PyData} {h:Str} {sl:List Str} {ps:PDs} (n:Nd d h sl ps) (g:Int→Int):aY g d=.tuple (.str h::cu ((bi h ps).map (cI g)) g sl ps)∧Nd (aY g d) h sl (cu ((bi h ps).map (cI g)) g sl ps):=by
 obtain⟨is,e,hl,hb⟩:=dz n;have e1:aY g d=.tuple (.str h::cu ((bi h ps).map (cI g)) g sl ps):=by
  rw[n.eq];show PyData.tuple (.str h::cu ((bi h ps).map (cI g)) g (da h) ps)=_;rw[gR n.mem]
 refine⟨e1,?_⟩;rw[e1,e,List.map_map];have e2:(is.map (cI g∘PyData.int))=(is.map g).map PyData.int:=by rw[List.map_map];rfl
 rw[e2];exact n.wid g (fun z=>by have:=hb z;intro c;exact this (List.map_eq_nil_iff.mp c)) (by rw[lMp];exact hl)
end P10
namespace K12
open PySem L2 P10
section
variable {P:Program} {w:World} {K:Fg} {mg:SOV} {base:Heap}
theorem oP {H:Hp} {g:Int→Int} (is:List Int):TDs K H (is.map fun i=>V.int (g i)) (is.map (cI g∘PyData.int)):=by
 induction is with
 | nil=>exact .nil
 | cons i r ih=>exact .cons (.int _) ih
end
end K12
namespace L2
open PySem PySem.Spec PyProof.Rows
open AutoSeq1 (wpAny_loadPart')
section
variable {prog:Program} {w:World} {A:Around} {E:VSP} {s:Shared}
theorem wH (l:Addr) (aA:Array Value) (n:Nat) (dct:Option Addr) (sl:Array (Option Value)) :
 Meets (Builtin.«enumerate.__new__» ⟨[.type "enumerate",.ref l],[]⟩) (fun _ R s=>s.heap.get? l=some ⟨.type "tuple",dct,.seq aA n,sl⟩ ∧
   R (.ok (.ret (.ref (s.heap.push ⟨.type "tuple_iterator",none,.fields #[.ref l,.int 0 0],#[]⟩).objs.size))) {s with heap:=(s.heap.push ⟨.type "tuple_iterator",none,.fields #[.ref l,.int 0 0],#[]⟩).push ⟨.type "enumerate",none,.fields #[.none,.bool false,.ref s.heap.objs.size,rawInt 0,.none,.none],#[]⟩}) :=
 .of_wp fun P W B R s z=>by
  rcases s with ⟨c1,c2,c3,c4,c5⟩;rcases z with ⟨hl,z⟩
  have hs:=sub_enumerate;have hT:Heap.IsTuple (Shared.heap ⟨c1,c2,c3,c4,c5⟩) l aA:=⟨_,hl,rfl,n,rfl⟩
  wp_walk using wpAny_loadPart' hl
  refine wpAny_stack_any fun st=>wP ?_;split
  · rename_i c _ _ _ _ _
    cases (c==Value.type "enumerate")
    · wp_walk using wpAny_loadPart' hl,wpAny_pyIter_tuple hT;exact⟨_,rfl,z⟩
    · wp_walk using wpAny_loadPart' hl,wpAny_pyIter_tuple hT;exact⟨_,rfl,z⟩
  · wp_walk using wpAny_loadPart' hl,wpAny_pyIter_tuple hT;exact⟨_,rfl,z⟩
theorem qI {l:Addr} {aA:Array Value} {Q:VSP} (hT:s.heap.IsTuple l aA)
 (q:∀ h',IsEnum h' (s.heap.objs.size+1) s.heap.objs.size 0 .none→h'.IsTupleIter s.heap.objs.size l 0→(∀ b o,s.heap.get? b=some o→h'.get? b=some o)→Q (.ref (s.heap.objs.size+1)) {s with heap:=h'}) :
 wpAny (model prog w) A (call (.type "enumerate") [.ref l]) Q E s:=by
 obtain⟨⟨c,dct,dt,sl⟩,hl,hc,n,hd⟩:=hT;cases (show c=.type "tuple" from hc);cases (show dt=.seq aA n from hd);refine callType_new F.called_enumerate (by decide) (F.typeCall_enumerate_1 _) (F.newCall_enumerate_1 _) (fun obj=>F.args_object_init_2 obj _) F.entry_enumerate_new (wH l aA n dct sl) ⟨hl,?_⟩;have hz:(s.heap.push ⟨.type "tuple_iterator",none,.fields #[.ref l,.int 0 0],#[]⟩).objs.size=s.heap.objs.size+1:=Heap.size_push ..;have g:=Heap.get?_push_size (s.heap.push ⟨.type "tuple_iterator",none,.fields #[.ref l,.int 0 0],#[]⟩) (o:=⟨.type "enumerate",none,.fields #[.none,.bool false,.ref s.heap.objs.size,rawInt 0,.none,.none],#[]⟩) rfl;show _∧_;rw[hz] at g ⊢;exact⟨⟨_,g,rfl⟩,q _ g ⟨_,hpS _ (Heap.get?_push_size _ rfl),rfl,rfl⟩ fun b o x=>hpS _ (hpS _ x)⟩
variable {e it src:Addr} {xs:Array Value} {J:Nat→Heap→Prop} {k:Nat} {x old:Value}
theorem tj {Q:Option Value→Shared→Prop} (W:Drw prog w it src xs J) (he:IsEnum s.heap e it k old) (st:J k s.heap) (hx:xs[k]?=some x) (ne:e≠it) (ns:e≠src)
 (q:∀ h',IsEnumOut h' e it ((k:Int)+1) x s.heap.objs.size→J (k+1) h'→h'.get? s.heap.objs.size=some ⟨.type "tuple",none,.seq #[.int k s.toks,x] 0,#[]⟩→(∀ b o,b≠e→b≠it→s.heap.get? b=some o→h'.get? b=some o)→Q (some (.ref s.heap.objs.size)) {s with heap:=h',toks:=s.toks+1}) :
 wpAny (model prog w) A (pyNext (.ref e)) Q E s:=by
 have hT:s.TypeIs (.ref e) "enumerate":=⟨_,he,rfl⟩;unfold pyNext;refine wB (wpAny_attempt (wpAny_callSpecial?_slot (name:=Str.ofString "__next__") hT F.slot_enumerate_next (wpAny_call_entry F.slot_enumerate_next hT F.entry_enumerate_next ?_ (F.args_enumerate_next_1 _))));obtain⟨c1,c2,c3,c4,c5⟩:=s;show wpAny _ _ (field (.ref e) 2>>=_) _ _ _;refine wB (wpAny_field he rfl (x:=.ref it) rfl ?_);refine wB (W.item _ _ _ k x _ st hx fun p1 st1 sb1=>?_);replace sb1:Heap.SameBut it c1 p1:=sb1;have e1:IsEnum p1 e it k old:=(sb1.2 e ne).trans he;show wpAny _ _ (field (.ref e) 3>>=_) _ _ ⟨p1,c2,c3,c4,c5⟩;refine wB (wpAny_field e1 rfl (x:=rawInt k) rfl ?_);show wpAny _ _ (field (.ref e) 4>>=_) _ _ ⟨p1,c2,c3,c4,c5⟩;refine wB (wpAny_field e1 rfl (x:=.none) rfl ?_);show wpAny _ _ (mkInt k>>=_) _ _ ⟨p1,c2,c3,c4,c5⟩;refine wB (wpAny_mkInt ?_);show wpAny _ _ (setField (.ref e) 3 (rawInt ((k:Int)+1))>>=_) _ _ ⟨p1,c2,c3,c4+1,c5⟩;refine wB (wpAny_setField_rec e1 (by simp) fun p2 e2 sb2=>?_);replace sb2:Heap.SameBut e p1 p2:=sb2;replace e2:IsEnum p2 e it ((k:Int)+1) old:=e2;show wpAny _ _ (setField (.ref e) 4 .none>>=_) _ _ ⟨p2,c2,c3,c4+1,c5⟩;refine wB (wpAny_setField_rec e2 (by simp) fun p3 e3 sb3=>?_);replace sb3:Heap.SameBut e p2 p3:=sb3;replace e3:IsEnum p3 e it ((k:Int)+1) old:=e3;show wpAny _ _ (newTuple [.int k c4,x]>>=_) _ _ ⟨p3,c2,c3,c4+1,c5⟩;refine wB (wpAny_newTuple ?_);have zz:p3.objs.size=c1.objs.size:=by rw[sb3.1,sb2.1,sb1.1]
 have e4:IsEnum (p3.push {cls:=.type "tuple",data:=.seq #[.int k c4,x]}) e it ((k:Int)+1) old:=hpS _ e3;have t4:(p3.push {cls:=.type "tuple",data:=.seq #[.int k c4,x]}).get? c1.objs.size=some ⟨.type "tuple",none,.seq #[.int k c4,x] 0,#[]⟩:=by rw[← zz];exact Heap.get?_push_size _ rfl
 have k4:∀ b o,b≠e→p1.get? b=some o→(p3.push {cls:=.type "tuple",data:=.seq #[.int k c4,x]}).get? b=some o:=fun b o hb g=>hpS _ (sb3.extBut b o hb (sb2.extBut b o hb g));show wpAny _ _ (Builtin.SmallTypes.ownedTupleIsFree (.ref e)>>=_) _ _ ⟨p3.push {cls:=.type "tuple",data:=.seq #[.int k c4,x]},c2,c3,c4+1,c5⟩;rw[zz];generalize p3.push {cls:=.type "tuple",data:=.seq #[.int k c4,x]}=p4 at e4 t4 k4 ⊢;clear e3 sb3 e2 sb2 e1 zz p3 p2;have el:e<c1.objs.size:=Heap.lt_size he;refine wB ?_;unfold Builtin.SmallTypes.ownedTupleIsFree;refine wB (wpAny_field e4 rfl (x:=.none) rfl (wP ?_));simp only[if_true];refine wB (wpAny_rule ?_);refine wB (wpAny_field e4 rfl (x:=old) rfl ?_);refine wB (wpAny_setField_rec e4 (by simp) fun p5 e5 sb5=>?_);replace sb5:Heap.SameBut e p4 p5:=sb5;replace e5:IsEnum p5 e it ((k:Int)+1) x:=e5;show wpAny _ _ (Builtin.SmallTypes.ownedTupleHandOut (.ref e) (.ref c1.objs.size)>>=_) _ _ ⟨p5,c2,c3,c4+1,c5⟩;refine wB ?_;unfold Builtin.SmallTypes.ownedTupleHandOut;refine wB (wpAny_setField_rec e5 (by simp) fun p6 e6 sb6=>?_);replace sb6:Heap.SameBut e p5 p6:=sb6;replace e6:IsEnumOut p6 e it ((k:Int)+1) x c1.objs.size:=e6;refine wpAny_setField_rec e6 (by simp) fun p7 e7 sb7=>?_;replace sb7:Heap.SameBut e p6 p7:=sb7;replace e7:IsEnumOut p7 e it ((k:Int)+1) x c1.objs.size:=e7;have k7:∀ b o,b≠e→p4.get? b=some o→p7.get? b=some o:=fun b o hb g=>sb7.extBut b o hb (sb6.extBut b o hb (sb5.extBut b o hb g));refine wB (wpAny_letGo (wP ⟨_,rfl,wP (q p7 e7 ?_ (k7 _ _ (Nat.ne_of_gt el) t4) fun b o hb hi g=>k7 b o hb (k4 b o hb (sb1.extBut b o hi g)))⟩));exact W.ext _ _ _ st1 (fun o g=>k7 it o (Ne.symm ne) (k4 it o (Ne.symm ne) g)) fun o g=>k7 src o (Ne.symm ns) (k4 src o (Ne.symm ns) g)
theorem tf {Q:Option Value→Shared→Prop} (W:Drw prog w it src xs J) (hh:A.handled=none) (he:IsEnum s.heap e it k old) (st:J k s.heap) (hx:xs[k]?=none) (q:∀ h',Heap.ExtBut it s.heap h'→Q none {s with heap:=h'}):wpAny (model prog w) A (pyNext (.ref e)) Q E s:=by
 have hT:s.TypeIs (.ref e) "enumerate":=⟨_,he,rfl⟩;unfold pyNext;refine wB (wpAny_attempt (wpAny_callSpecial?_slot (name:=Str.ofString "__next__") hT F.slot_enumerate_next (wpAny_call_entry F.slot_enumerate_next hT F.entry_enumerate_next ?_ (F.args_enumerate_next_1 _))));show wpAny _ _ (field (.ref e) 2>>=_) _ _ _;refine wB (wpAny_field he rfl (x:=.ref it) rfl ?_);refine wB (W.stop _ _ _ k _ hh st hx fun h' y x1 ⟨o,ho,hc⟩=>?_);exact wB (wpAny_isInstance (T:="StopIteration") (b:=true) ⟨o,ho,hc⟩ isSubtype_stop (wP (q _ x1)))
end
def tO (K:Fg) (a:Addr):It :=
  ⟨fun i H=>∃ xs x,SqT K H a xs∧xs[i]?=some x,fun i H v H'=>∃ t x,v=.ref t∧H t=none∧H'=upd H t (.tup [.int i,x])∧∀ xs,SqT K H a xs→xs[i]?=some x,fun i H=>∃ xs,SqT K H a xs∧xs.length≤i⟩
theorem lm {P:Program} {w:World} {K:Fg} {elts:List Expr} {k} {pos:Pos} (a e it:Addr) (hne:e≠it) :
 lX P w K (.Tuple elts k pos) (tO K a) [e,it] e (fun i h=>(∃ old,IsEnum h e it i old)∧h.IsTupleIter it a i) where
 mem:=mCS
 obj:=fun i h st b hb=>by
  obtain⟨⟨old,he⟩,o,ho,c,d⟩:=st
  rcases List.mem_cons.mp hb with rfl | q
  · exact⟨_,he,fun v z=>by cases z⟩
  · cases mSg.mp q;exact⟨o,ho,fun v z=>by rw[d] at z;cases z⟩
 keep:=fun i h h' st k=>⟨let ⟨old,he⟩:=st.1;⟨old,k e (by simp) _ he⟩,st.2.at fun o ho=>k it (by simp) o ho⟩
 item:=by
  intro X hP hw hK hc i pins s σ H E I hf st hg;subst hP hw hK;obtain⟨xs,x,hq,hx⟩:=hg;obtain⟨its,rv,p,hz⟩:=I.tuple hq;obtain⟨u,hu,ru⟩:=rv.get hx;obtain⟨⟨old,he⟩,hit⟩:=st;obtain⟨e0,e1,e2,e3,e4,e5⟩:=hf e (by simp);obtain⟨f0,f1,f2,f3,f4,f5⟩:=hf it (by simp);have pT:s.heap.IsTuple a its.toArray:=p;obtain⟨oT,hoT,cT,nT,dT⟩:=id pT;have ns:a≠e:=fun z=>by rw[z,show s.heap.get? e=_ from he] at hoT;cases hoT;exact absurd (Value.type.inj cT) (by decide)
  have ni0:a≠it:=fun z=>by obtain⟨oi,hoi,ci,_⟩:=id hit;rw[z,hoi] at hoT;cases hoT;rw[ci] at cT;exact absurd (Value.type.inj cT) (by decide)
  refine tj (eD it a ni0 its.toArray) he ⟨hit,pT⟩ (x:=u) (by simpa using hu) hne (Ne.symm ns) fun h' ho jt hT hk=>?_;refine⟨_,rfl,wpAny_letOwnedTupleGo_enum (s:={s with heap:=h',toks:=s.toks+1}) ho fun h2 he2 hs2=>?_⟩;have hk2:∀ b o,b≠e→b≠it→s.heap.get? b=some o→h2.get? b=some o:=fun b o q1 q2 z=>(hs2.2 b q1).trans (hk b o q1 q2 z);have helt:e<s.heap.objs.size:=Heap.lt_size he;have hT2:=(hs2.2 _ (Nat.ne_of_gt helt)).trans hT;have hfr:H s.heap.objs.size=none:=I.hok.fresh (Nat.le_refl _);have nd:∀ {b:Addr} {o:HO},H b=some o→b≠s.heap.objs.size:=fun {b o} q z=>by rw[z,hfr] at q;cases q
  have ne:∀ {b:Addr} {o:HO},H b=some o→b≠e:=fun {b o} q z=>by rw[z,e0] at q;cases q
  have ni:∀ {b:Addr} {o:HO},H b=some o→b≠it:=fun {b o} q z=>by rw[z,f0] at q;cases q
  have nch:∀ {b:Addr},b∉[e,it]→b≠e∧b≠it:=fun {b} z=>⟨fun q=>z (by simp[q]),fun q=>z (by simp[q])⟩;have I2:Inv X pins σ (upd H s.heap.objs.size (.tup [.int i,x])) {s with heap:=h2,toks:=s.toks+1}:=by
   refine I.step (g':=s.gens) (d':=s.drawn) (ch:=[e,it]) (fun b hb=>?_) (fun b o _ _ hc z _=>hk2 b o (nch hc).1 (nch hc).2 z) (fun b o _ _ hc z _=>⟨o.slots,hk2 b o (nch hc).1 (nch hc).2 z⟩) (fun b o _ z n=>by rw[a9 (Nat.ne_of_lt (Heap.lt_size z))];exact n)
    (fun b o hc z=>⟨o,hk2 b o (nch hc).1 (nch hc).2 z⟩) (fun b xs z=>by rw[a9 (nd z)];exact z) (fun b o u z=>by rw[a9 (nd z)];exact z) (fun b ps z=>⟨#[],by rw[a9 (nd z),z];simp⟩) (fun m hm=>?_) (fun b o z=>?_) I.bare
   · rcases List.mem_cons.mp hb with rfl | q
     · exact⟨e3,e1,e4,e5⟩
     · cases mSg.mp q;exact⟨f3,f1,f4,f5⟩
   · obtain⟨o,es,ep,ho',r⟩:=hm;exact⟨o,es,ep,hk2 _ o (Ne.symm e1) (Ne.symm f1) ho',r⟩
   · by_cases hb:b=s.heap.objs.size
     · rw[hb,pG] at z;cases z;rw[hb];exact⟨gu,[.int i s.toks,u],.cons ⟨_,rfl⟩ (.cons ru .nil),⟨_,hT2,rfl,_,rfl⟩⟩
     · rw[a9 hb] at z;refine (I.hok b o z).stay (fun c v hc zc=>?_) (fun c zc=>by rw[a9 (nd zc)];exact zc) fun c xs zc=>by rw[a9 (nd zc)];exact zc
       rcases hc with rfl | hc
       · exact hk2 _ _ (ne z) (ni z) zc
       · exact hk2 _ _ (ne hc) (ni hc) zc
  refine⟨.ref s.heap.objs.size,_,I2,rfl,⟨_,x,rfl,hfr,rfl,fun ys hy=>by rw[I.tuple_inj hy hq];exact hx⟩,⟨⟨u,by simpa using he2⟩,jt.1.at fun o ho'=>(hs2.2 it (Ne.symm hne)).trans ho'⟩,fun b hb=>?_⟩;have hbs:b<s.heap.objs.size:=by
   rcases List.mem_cons.mp hb with rfl | q
   · exact helt
   · cases mSg.mp q;obtain⟨o,ho',_⟩:=hit;exact Heap.lt_size ho'
  rw[a9 (Nat.ne_of_lt hbs)];exact (hf b hb).1
 done:=by
  intro X hP hw hK hc i pins s σ H E I hf st hg;subst hP hw hK;obtain⟨xs,hq,hx⟩:=hg;obtain⟨its,rv,p,hz⟩:=I.tuple hq;obtain⟨⟨old,he⟩,hit⟩:=st;obtain⟨f0,f1,f2,f3,f4,f5⟩:=hf it (by simp);have hl:=rv.length;have pT:s.heap.IsTuple a its.toArray:=p;obtain⟨oT,hoT,cT,nT,dT⟩:=id pT;have ni0:a≠it:=fun z=>by obtain⟨oi,hoi,ci,_⟩:=id hit;rw[z,hoi] at hoT;cases hoT;rw[ci] at cT;exact absurd (Value.type.inj cT) (by decide)
  exact tf (eD it a ni0 its.toArray) (I.ok.hd hc) he ⟨hit,pT⟩ (by simp;omega) fun h' eb=>⟨rfl,I.turned (t':=s.toks) (fun b o hb z=>eb b o hb z) f0 f1 f3 f4 f5⟩
 self:=fun _ _ _ _ _ st h=>let ⟨_,he⟩:=st.1;wpAny_pyIter_enum he h
def ww (K:Fg) (ta:TA):TI:=fun σ H R=>ta σ H fun vs H1=>∃ a xs,vs=[.ref a]∧SqT K H1 a xs∧R (tO K a) H1
theorem gA:bootBuiltins "enumerate"=some (.type "enumerate"):=by decide +kernel
theorem qe {X:Cx} {elts:List Expr} {k} {tpos:Pos} {a:Expr} {ta:TA} {p pos:Pos} (hg:Gl X "enumerate") (hm:X.mg "enumerate"=none) (ha:PA X [a] ta) (hs:starEach [a] X.env=[(false,eval a X.env)]:=by rfl):PI X (.Tuple elts k tpos) (.Call (.Name "enumerate" p) [a] [] pos) (ww X.K ta):=by
 intro pins s σ H R I h;refine Call_ (cW I hg hm gA (PyProof.Rows.callWith_type1 (thn (ha pos pins s σ H _ I h) fun us s1 zz=>?_) hs rfl));obtain⟨vs,H1,I1,r1,l,xs,rfl,hq,q⟩:=zz;cases r1 with
 | cons r rr =>
  cases rr;cases r;obtain⟨its,rv,p,hz⟩:=I1.tuple hq;refine qI (show s1.heap.IsTuple l its.toArray from p) fun h' he hit hk=>wpAny_pyIter_enum he ?_;have I2:Inv X pins σ H1 {s1 with heap:=h'}:=I1.kept (t':=s1.toks) hk;refine⟨s1.heap.objs.size+1,[s1.heap.objs.size+1,s1.heap.objs.size],_,tO X.K l,H1,rfl,I2,lm l _ _ (Nat.succ_ne_self _),⟨⟨_,by simpa using he⟩,hit⟩,fun b hb=>?_,q⟩;have hb':s1.heap.objs.size≤b:=by
   rcases List.mem_cons.mp hb with rfl | z
   · exact Nat.le_succ _
   · cases mSg.mp z;exact Nat.le_refl _
  exact I1.fpOk hb' (I1.hok.fresh hb')
theorem b6.enumT {K:Fg} {a:Addr} {xs:List V} {g:TG} {tc:TT} {te:TE} {Q:VK} {σ0:St} {H1:Hp} {L:Addr} (Pv:Nat→St→Hp→Prop) (h0:Pv 0 σ0 (upd H1 L (.lst []))) (hl:∀ i σ H,i≤xs.length→Pv i σ H→SqT K H a xs)
 (hs:∀ i x σ H t,xs[i]?=some x→Pv i σ H→H t=none→g (.ref t) σ (upd H t (.tup [.int i,x])) fun σ3 H3=>tc σ3 H3 fun c H4=>if c=true then te σ3 H4 fun v H5=>∃ zs,H5 L=some (.lst zs)∧zs.length<sizeLine∧Pv (i+1) σ3 (upd H5 L (.lst (zs++[v]))) else Pv (i+1) σ3 H4)
 (hd:∀ σ H,Pv xs.length σ H→Q (.ref L) H):b6 (tO K a) g tc te Q σ0 H1 L:=by
 refine⟨fun i m σ H=>i≤xs.length∧m=xs.length-i∧Pv i σ H,⟨_,Nat.zero_le _,rfl,h0⟩,?_⟩;rintro i m σ H ⟨hi,hm,hp⟩;have l1:=hl i σ H hi hp;by_cases hlt:i<xs.length
 · refine .inr ⟨⟨xs,xs[i],l1,by simp[hlt]⟩,fun σ' H'=>Pv (i+1) σ' H',fun σ' H' q=>⟨xs.length-(i+1),by rw[hm];exact Nat.sub_succ_lt_self _ _ hlt,hlt,rfl,q⟩,?_⟩;rintro v H' ⟨t,x,rfl,ht,rfl,hx⟩;exact hs i x σ H t (hx xs l1) hp ht
 · obtain rfl:i=xs.length:=by omega
   exact .inl ⟨⟨xs,l1,Nat.le_refl _⟩,hd σ H hp⟩
end L2
namespace P10
open PySem L2
inductive Prs (K:Fg) (H:Hp):List V→List (PyData×Addr)→Prop
  | nil:Prs K H [] []
  | cons {t m:Addr} {x:V} {d:PyData} {zs:List V} {ps:List (PyData×Addr)} (h:H t=some (.tup [x,.ref m])) (td:TD K H x d) (r:Prs K H zs ps):Prs K H (.ref t::zs) ((d,m)::ps)
theorem Prs.snoc {K:Fg} {H:Hp} {zs:List V} {ps:List (PyData×Addr)} (h:Prs K H zs ps) {t m:Addr} {x:V} {d:PyData} (ht:H t=some (.tup [x,.ref m])) (td:TD K H x d):Prs K H (zs++[.ref t]) (ps++[(d,m)]):=by
 induction h with
 | nil=>exact .cons ht td .nil
 | cons a b c ih=>exact .cons a b ih
theorem Prs.app {K:Fg} {H:Hp} {zs zs':List V} {ps ps':List (PyData×Addr)} (h:Prs K H zs ps) (h':Prs K H zs' ps'):Prs K H (zs++zs') (ps++ps'):=by
 induction h with
 | nil=>exact h'
 | cons a b c ih=>exact .cons a b ih
theorem Prs.length {K:Fg} {H:Hp} {zs:List V} {ps:List (PyData×Addr)} (h:Prs K H zs ps):zs.length=ps.length:=by
 induction h with
 | nil=>rfl
 | cons a b c ih=>rw[List.length_cons,List.length_cons,ih]
theorem Prs.keep {K:Fg} {H H':Hp} {zs:List V} {ps:List (PyData×Addr)} (h:Prs K H zs ps) (e:∀ b xs,H b=some (.tup xs)→H' b=some (.tup xs)) (tk:Tk H H'):Prs K H' zs ps:=by
 induction h with
 | nil=>exact .nil
 | cons a b c ih=>exact .cons (e _ _ a) (b.tk tk) ih
theorem Prs.same {K:Fg} {H H':Hp} {zs:List V} {ps:List (PyData×Addr)} (h:Prs K H zs ps) (e:ak H H'):Prs K H' zs ps:=h.keep (fun b xs z=>e _ _ z) e.tk
theorem Prs.put {K:Fg} {H:Hp} {zs:List V} {ps:List (PyData×Addr)} (h:Prs K H zs ps) {L:Addr} {o:HO} {ys:List V} (hL:H L=some (.lst ys)):Prs K (upd H L o) zs ps :=
 h.keep (fun b xs z=>by rw[a9 fun e=>by rw[e,hL] at z;cases z];exact z) (bC (.inr ⟨_,hL⟩))
theorem Prs.last {K:Fg} {H:Hp} {zs:List V} {ps:List (PyData×Addr)} {p:PyData×Addr} (h:Prs K H zs (ps++[p])):∃ ys t x,zs=ys++[.ref t]∧Prs K H ys ps∧H t=some (.tup [x,.ref p.2])∧TD K H x p.1:=by
 induction ps generalizing zs with
 | nil=>cases h with | cons a b c=>cases c;exact⟨[],_,_,rfl,.nil,a,b⟩
 | cons e r ih =>
  cases h with
  | cons a b c =>
   obtain⟨ys,t,x,rfl,h1,h2,h3⟩:=ih c;exact⟨_::ys,t,x,rfl,.cons a b h1,h2,h3⟩
def scp (mo mi:Addr) (ks:PDs):List (PyData×Addr):=ks.mapIdx fun k x=>(x,if k+1=ks.length then mi else mo)
theorem pe {mo mi:Addr} {ks:PDs} {k:Nat} {x:PyData} (h:ks[k]?=some x):(scp mo mi ks).take (k+1)=(scp mo mi ks).take k++[(x,if k+1=ks.length then mi else mo)]:=by
 rw[tAO];congr 1;unfold scp;rw[List.getElem?_mapIdx,h];rfl
end P10
namespace K12
open PySem L2 P10
section
variable {P:Program} {w:World} {K:Fg} {mg:SOV} {base:Heap}
abbrev sSc:Stmt:=top 8
abbrev nSc:List Str:=["e","outer","inner","children","last"]
inductive uq (K:Fg) (vs:List V) (H:Hp) (Q:VK):Prop
  | mk (v:V) (mo mi:Addr) (d:PyData) (h:Str) (sl:List Str) (ps:PDs) (g0_:vs=[v,.ref mo,.ref mi]) (g1_:TD K H v d) (g2_:Nd d h sl ps) (g3_:∀ L zs H',ak H H'→H L=none→H' L=some (.lst zs)→Prs K H' zs (scp mo mi (ao d))→Q (.ref L) H'):uq K vs H Q
def xH (K:Fg):Sp:=fun vs H Q _=>uq K vs H Q
theorem ya:aB nSc ["e","outer","inner"] (a7 sSc):=fsM
theorem zM:(["number","child","inner","outer","last"]:List Str).Nodup:=by decide +kernel
theorem z9 (D:Def K mg "scoped_children" sSc) (T:Blt mg) (hen:mg "enumerate"=none) (dj:Fn P w K mg base "children_of" 1 ["e"] (vp K)):Fn P w K mg base "scoped_children" 2 ["e","outer","inner"] (xH K):=by
 refine D.fn ya (fun vs H Q E h=>?_) (fun _ _ _ _ _ _ us hl=>by obtain⟨a,b,c,rfl⟩:=fO hl;rfl) (fun f cdv A outer s' H vs Q E hr h=>?_)
 · obtain⟨v,mo,mi,d,h,sl,ps,rfl,_⟩:=h;rfl
 · obtain⟨v,mo,mi,d,h,sl,ps,rfl,td,ndd,q⟩:=h;have nd:=ya.nd;have hz0:(1000000:Nat)<sizeLine:=by decide
   refine⟨_,(pE (pN (i:=3) nd rfl (Or.inl rfl) (aa dj (hr.mono (by decide)) rfl (pA (pv 0) pC)))
 (pE (pN (i:=4) nd rfl (Or.inr rfl) (aC ck (bc T.len (pA (pv 3) pC)) pH))
 (pI (az (dU (own:=["number","child"]) (outs:=[(2,"inner"),(1,"outer"),(4,"last")]) (g:=Az K 2 (qy (eT 0) (qy (eT 1) AA))) rfl (aI.of (a7 sSc) nSc) (qe rfl hen (pA (pv 3) pC)) (fun _ _ _ _=>⟨(dh (n:=2) rfl (aP (ae (i:=0) zM rfl (Or.inl rfl) (Or.inr rfl)) (aP (ae (i:=1) zM rfl (Or.inl rfl) (Or.inr rfl)) cE))),bL,(au (pA (pv 1) (pA (ib (pO aV (pv 0) (pv 4) (pP _)) (pv 2) (pv 3)) pC)))⟩)))))),?_⟩
   dsimp only[bJ,bN,bM];refine a0 fun rD iB=>?_;refine⟨_,rfl,v,d,h,sl,ps,rfl,td,ndd,fun v1 H1 k1 t1=>?_⟩;rw[← ndd.kids] at t1;obtain⟨c,ws,rfl,hc,hws⟩:=t1.tup_of;refine iB _ _ (a0 fun mF iq=>?_);refine⟨_,rfl,c,ws,rfl,.inr hc,_,_,rfl,rfl,?_⟩;refine iq _ _ ?_;rw[gX,cj];refine⟨_,rfl,c,ws,rfl,hc,fun L hL=>?_⟩;have hwl:=hws.length;have hH:H L=none:=by
    cases e:H L with
    | none=>rfl
    | some o=>rw[k1 _ _ e] at hL;cases hL
   refine b6.enumT (xs:=ws) (fun i σ Hi=>ak H1 Hi∧(∃ zs,Hi L=some (.lst zs)∧Prs K Hi zs ((scp mo mi (ao d)).take i))∧∃ x0 x1,σ=[x0,x1,some (.ref mi),some (.ref mo),some (.int ((ws.length:Nat)-1))]) ⟨smu hL,⟨[],pG,.nil⟩,_,_,rfl⟩ (fun i σ Hi _ z=>z.1.seqT hc) ?_ ?_
   · rintro i x σ Hi t hxi ⟨sm,⟨zs,hLi,hzs⟩,x0,x1,rfl⟩ ht;obtain⟨dx,hdx,tdx⟩:=hws.get hxi;have k3:=smu (o:=HO.tup [V.int ((i:Nat):Int),x]) ht;refine⟨t,_,rfl,SqT.of pG,rfl,_,_,rfl,_,_,rfl,rfl,?_⟩;generalize upd Hi t (.tup [V.int ((i:Nat):Int),x])=H3 at k3 ⊢;have sm3:=sm.trans k3;rw[df];refine bx ?_;refine⟨_,rfl,_,rfl,_,rfl,rfl,_,rfl,?_⟩;have done:∀ m,m=(if i+1=(ao d).length then mi else mo)→(2≤sizeLine∧∀ p,H3 p=none→∃ zs',(upd H3 p (.tup [x,.ref m])) L=some (.lst zs')∧zs'.length<sizeLine∧(ak H1 (upd (upd H3 p (.tup [x,.ref m])) L (.lst (zs'++[.ref p])))∧(∃ zs,(upd (upd H3 p (.tup [x,.ref m])) L (.lst (zs'++[.ref p]))) L=some (.lst zs)∧Prs K (upd (upd H3 p (.tup [x,.ref m])) L (.lst (zs'++[.ref p]))) zs ((scp mo mi (ao d)).take (i+1))))):=by
      rintro m rfl;refine⟨by decide,fun p hp=>?_⟩;have k4:=smu (o:=HO.tup [x,.ref (if i+1=(ao d).length then mi else mo)]) hp;have hp4:(upd H3 p (.tup [x,.ref (if i+1=(ao d).length then mi else mo)])) p=some (.tup [x,.ref (if i+1=(ao d).length then mi else mo)]):=pG;generalize upd H3 p (.tup [x,.ref (if i+1=(ao d).length then mi else mo)])=H4 at k4 hp4 ⊢;have hL4:=k4 _ _ (k3 _ _ hLi);have hzl:=hzs.length;have hf:=ndd.few;rw[← ndd.kids] at hf;have hlt:=(gES.mp hdx).1;rw[lTk] at hzl;refine⟨zs,hL4,by omega,aG (sm3.trans k4) hL,_,pG,?_⟩;rw[pe hdx];have z5:=(hzs.same (k3.trans k4)).snoc hp4 (tdx.same (sm3.trans k4));exact z5.put hL4
     by_cases hlast:i+1=(ao d).length
     · refine pL (by simp;omega) ?_;obtain⟨z1,z2⟩:=done mi (by rw[if_pos hlast]);exact⟨_,rfl,z1,fun p hp=>by obtain⟨zs',a,b,c,d'⟩:=z2 p hp;exact⟨zs',a,b,c,d',_,_,rfl⟩⟩
     · refine pK (by simp;omega) ?_;obtain⟨z1,z2⟩:=done mo (by rw[if_neg hlast]);exact⟨_,rfl,z1,fun p hp=>by obtain⟨zs',a,b,c,d'⟩:=z2 p hp;exact⟨zs',a,b,c,d',_,_,rfl⟩⟩
   · rintro σ Hi ⟨sm,⟨zs,hLi,hzs⟩,x0,x1,rfl⟩;rw[hwl,show (ao d).length=(scp mo mi (ao d)).length by unfold scp;rw[List.length_mapIdx],List.take_length] at hzs;exact q L zs Hi (k1.trans sm) hH hLi hzs
end
end K12
namespace L2
@[simp] theorem Bt {K:Fg} {xs:List V} {H:Hp} {Q:VK}:vG K xs H Q=∃ p ys,xs=[.ref p]∧(SqL K H p ys∨SqT K H p ys)∧Q (.int ys.length) H:=propext ⟨fun h=>by obtain⟨p,ys,a,b,c⟩:=h;exact⟨p,ys,a,b,c⟩,fun h=>by obtain⟨p,ys,a,b,c⟩:=h;exact⟨p,ys,a,b,c⟩⟩
end L2
namespace K12
open PySem L2 P10
section
variable {P:Program} {w:World} {K:Fg} {mg:SOV} {base:Heap}
abbrev gW:Stmt:=top 12
inductive mV (K:Fg) (vs:List V) (H:Hp) (Q:VK):Prop
  | mk (a:Addr) (ns:List Int) (k many:Int) (g0_:vs=[.ref a,.int k,.int many]) (g1_:SqL K H a (ns.map V.int)) (g2_:ns.length≤63) (g3_:0≤k) (g4_:k≤1000000) (g5_:0<many) (g6_:∀ r,0≤r→r<many→Q (.int r) H):mV K vs H Q
def oW (K:Fg):Sp:=fun vs H Q _=>mV K vs H Q
theorem pf:aB ["_law_script","_law_k","_law_many","_law_cell","_law_left","_law_j","_law_seed"] ["_law_script","_law_k","_law_many"] (a7 gW):=fsM
theorem lC (x m:Int) (h:0<m):0≤x % m∧x % m<m:=⟨Int.emod_nonneg x (by lia),Int.emod_lt_of_pos x h⟩
theorem sF (D:Def K mg "_law_draw" gW) (T:Blt mg):Fn P w K mg base "_law_draw" 1 ["_law_script","_law_k","_law_many"] (oW K):=by
 refine D.fn pf (fun vs H Q E h=>?_) (fun _ _ _ _ _ _ us hl=>by obtain⟨a,b,c,rfl⟩:=fO hl;rfl) (fun f cdv A outer s H vs Q E hr h=>?_)
 · obtain⟨a,ns,k,many,rfl,_⟩:=h;rfl
 · obtain⟨a,ns,k,many,rfl,hS,hlen,k0,k1,hm,q⟩:=h;have nd:=pf.nd;obtain⟨t4,h4,q4⟩:∃ t,PSs (cJ CX0 P w K mg base ["_law_script","_law_k","_law_many","_law_cell","_law_left","_law_j","_law_seed"] "_law_draw" (a7 gW) f cdv A outer s H E).nox ((aW gW).drop 3) t ∧
    ∀ (c:Int) (l j:Option V),t {nx:=fun _ H'=>Q .non H',rt:=Q} [some (.ref a),some (.int k),some (.int many),some (.int c),l,j,none] H:=by
    refine⟨_,(pE (pN (i:=6) nd rfl (Or.inl rfl) (aC bI (aC bI (aC dD (pv 3) pH) (aC ie (aC ie pH (pv 1)) (pv 1))) pH))
      (pI (az (aC dD (aC dD (aC ie (aC dD (aC ie (pv 6) pH) pH) pH) pH) (pv 2))))),fun c l j=>?_⟩
    simp;exact⟨.inl ⟨by decide,by decide⟩,.inr ⟨by lia,CY⟩,.inr ⟨by decide,by decide⟩,.inr ⟨by decide,by decide⟩,hm,q _ (lC _ _ hm).1 (lC _ _ hm).2⟩
   obtain⟨t2,h2,q2⟩:∃ t,PSs (cJ CX0 P w K mg base ["_law_script","_law_k","_law_many","_law_cell","_law_left","_law_j","_law_seed"] "_law_draw" (a7 gW) f cdv A outer s H E).nox ((aW gW).drop 1) t ∧
    ∀ (c:Int),(10 ^ 18≤c→0<ns.length)→t {nx:=fun _ H'=>Q .non H',rt:=Q} [some (.ref a),some (.int k),some (.int many),some (.int c),none,none,none] H:=by
    refine⟨_,(pE (pN (i:=4) nd rfl (Or.inl rfl) (pv 3))
 (pE (aN (pO u7 (pv 3) (aC vP pH pH) (pP _)) (pE (bp PassesOwn.never rfl (bz rfl T.range (pA (aC dD (aC jv (pv 1) (bc T.len (pA (pv 0) pC))) pH) pC)) (ae (i:=5) nd rfl (Or.inl rfl))
 (pI (pN (i:=4) nd rfl (Or.inl rfl) (aC jv (pv 4) pH))))
 (pI (aN (pO iW (pv 4) pH (pP _)) (pI (az (aC dD (aC dD (aC jv (pv 4) pH) pH) (pv 2)))) aE))) aE) h4)),fun c hc=>?_⟩
    simp;refine⟨⟨by decide,by decide,by decide⟩,?_⟩;by_cases h:c<1000000000000000000
    · exact .inl ⟨h,q4 c _ _⟩
    have hn:0<ns.length:=hc (by lia);have hb:=lC (k / ((ns.map V.int).length:Int)) 60 (by decide);refine .inr ⟨by lia,_,.inl hS,⟨by rw[lMp];exact b_z,by rw[lMp];exact tD⟩,by lia,by lia,?_⟩;refine aw.by b4 (fun _ σ H2=>H2=H∧∃ (l:Int) (j:Option V),σ=[some (.ref a),some (.int k),some (.int many),some (.int c),some (.int l),j,none]) ⟨rfl,c,_,rfl⟩ (fun _ _ _ _ _=>trivial) ?_ ?_
    · rintro i x σ H2 hx ⟨rfl,l,j,rfl⟩;simp;exact⟨by decide,by decide⟩
    · rintro σ H2 ⟨rfl,l,j,rfl⟩;simp;by_cases h:0<l
      · exact .inr ⟨h,⟨by decide,by decide⟩,hm,q _ (lC _ _ hm).1 (lC _ _ hm).2⟩
      · exact .inl ⟨by lia,q4 c _ _⟩
   refine⟨_,(pE (pN (i:=3) nd rfl (Or.inl rfl) (ib (pO iW (bc T.len (pA (pv 0) pC)) pH (pP _)) (aq aH (pv 0) (aC dD (pv 1) (bc T.len (pA (pv 0) pC))) (fun _ _=>rfl)) pH)) h2),?_⟩;simp;refine⟨_,.inl hS,?_⟩;simp;by_cases hn:ns=[]
   · exact .inl ⟨hn,q2 0 fun z=>absurd z (by decide)⟩
   · have hl:0<ns.length:=List.length_pos_iff.mpr hn;have hb:=lC k (ns.length:Int) (b_z);obtain⟨i,hi⟩:=Int.eq_ofNat_of_zero_le hb.1;have hi':i<ns.length:=by lia
     refine .inr ⟨hl,_,.inl hS,by simpa using hl,_,hS,V.int ns[i],?_,q2 _ fun _=>hl⟩;rw[lMp,hi];exact pJ (by simp[hi'])
def StV (H:Hp) (s:Addr) (n:Nat) (m:Str→Option V):Prop:=∃ kvs:List (Key×V),H s=some (.dK kvs)∧kvs.length≤n∧∀ k:Str,bP kvs (.inr k)=m k
def aJ (m:Str→Option V) (k:Str) (v:V):Str→Option V:=fun x=>if x=k then some v else m x
theorem be (m:Str→Option V) (k:Str) (v:V):aJ m k v k=some v:=if_pos rfl
theorem aj (m:Str→Option V) {k x:Str} (v:V) (h:x≠k:=by decide +kernel):aJ m k v x=m x:=if_neg h
theorem pY {kvs:List (Key×V)} {k:Key} {u:V} (v:V) (h:bP kvs k=some u):(bS kvs k v).length=kvs.length:=by
 unfold bS;rw[dR,h];simp
theorem StV.get {H:Hp} {s:Addr} {n:Nat} {m:Str→Option V} (h:StV H s n m) {k:Str} {v:V} (e:m k=some v):bR H s (.str k) (some v):=by
 obtain⟨kvs,h1,h2,h3⟩:=h;rw[← e,← h3 k];exact bR.k (k:=.inr k) h1
theorem StV.put {H:Hp} {s:Addr} {n:Nat} {m:Str→Option V} (h:StV H s n m) {k:Str} {u:V} (e:m k=some u) (v:V) (hn:n≤1000):∃ H',dk H s (.str k) v H'∧(∀ b,b≠s→H' b=H b)∧StV H' s n (aJ m k v):=by
 obtain⟨kvs,h1,h2,h3⟩:=h;have hz:(1000:Nat)<sizeLine:=by decide
 refine⟨_,dk.k (k:=.inr k) h1 (oo),fun b hb=>a9 hb,_,pG,?_,fun x=>?_⟩
 · rw[pY v (by rw[h3 k,e])];exact h2
 · rw[dl,h3 x];unfold aJ;by_cases hx:x=k
   · rw[if_pos hx,if_pos (by rw[hx])]
   · rw[if_neg hx,if_neg (by simpa using hx)]
theorem StV.new {H:Hp} {s:Addr} {n:Nat} {m:Str→Option V} (h:StV H s n m) (k:Str) (v:V) (hn:n≤1000):∃ H',dk H s (.str k) v H'∧(∀ b,b≠s→H' b=H b)∧StV H' s (n+1) (aJ m k v):=by
 obtain⟨kvs,h1,h2,h3⟩:=h;have hz:(1000:Nat)<sizeLine:=by decide
 refine⟨_,dk.k (k:=.inr k) h1 (oo),fun b hb=>a9 hb,_,pG,?_,fun x=>?_⟩
 · have:=bq kvs (.inr k) v;lia
 · rw[dl,h3 x];unfold aJ;by_cases hx:x=k
   · rw[if_pos hx,if_pos (by rw[hx])]
   · rw[if_neg hx,if_neg (by simpa using hx)]
abbrev sPk:Stmt:=top 13
def Mo (H:Hp) (s:Addr) (H':Hp):Prop:=∀ b,b≠s→H' b=H b
inductive uu (K:Fg) (vs:List V) (H:Hp) (Q:VK):Prop
  | mk (s a:Addr) (n:Nat) (m:Str→Option V) (ns:List Int) (k many:Int) (g0_:vs=[.ref s,.int many]) (g1_:StV H s n m) (g2_:n≤1000) (g3_:m "script"=some (.ref a)) (g4_:a≠s) (g5_:SqL K H a (ns.map V.int)) (g6_:ns.length≤63) (g7_:m "k"=some (.int k)) (g8_:0≤k) (g9_:k<1000000) (g10_:0<many) (g11_:∀ r H',0≤r→r<many→Mo H s H'→StV H' s n (aJ m "k" (.int (k+1)))→Q (.int r) H'):uu K vs H Q
def iD (K:Fg):Sp:=fun vs H Q _=>uu K vs H Q
theorem ye:aB ["_law_state","_law_many"] ["_law_state","_law_many"] (a7 sPk):=fsM
theorem SqL.mo {K:Fg} {H H':Hp} {s a:Addr} {xs:List V} (h:SqL K H a xs) (hm:Mo H s H') (ne:a≠s):SqL K H' a xs:=by
 rcases h with (h | ⟨o,h⟩) | h
 · exact .inl (.inl (by rw[hm a ne];exact h))
 · exact .inl (.inr ⟨o,by rw[hm a ne];exact h⟩)
 · exact .inr h
theorem ze (D:Def K mg "_law_pick" sPk) (T:Blt mg) (ma:Fn P w K mg base "_law_draw" 1 ["_law_script","_law_k","_law_many"] (oW K)):Fn P w K mg base "_law_pick" 2 ["_law_state","_law_many"] (iD K):=by
 refine D.fn ye (fun vs H Q E h=>?_) (fun _ _ _ _ _ _ us hl=>by obtain⟨a,b,rfl⟩:=il hl;rfl) (fun f cdv A outer s' H vs Q E hr h=>?_)
 · obtain⟨s,a,n,m,ns,k,many,rfl,_⟩:=h;rfl
 · obtain⟨s,a,n,m,ns,k,many,rfl,st,hn,hs,hne,hS,hlen,hk,k0,k1,hm,q⟩:=h;have nd:=ye.nd;have hu:(A.deeper (PyProof.Rows.envOfC "_law_pick" (a7 sPk) s'.heap.objs.size f cdv)).units+1<cLine:=bX hr;refine⟨_,(pE (bg hu (pv 0) pD (aC bI (pM hu (pv 0) pD (fun _ _=>rfl)) pH) rfl)
 (pI (az (aa ma (hr.mono (by decide)) rfl (pA (pM hu (pv 0) pD (fun _ _=>rfl)) (pA (pM hu (pv 0) pD (fun _ _=>rfl)) (pA (pv 1) pC))))))),?_⟩
   obtain⟨H',hp,hmo,st'⟩:=st.put hk (.int (k+1)) hn;refine⟨_,rfl,s,_,rfl,st.get hk,_,_,rfl,rfl,_,rfl,s,H',rfl,hp,?_⟩;refine⟨_,rfl,s,_,rfl,st'.get (k:="script") (v:=.ref a) (by rw[aj _ _ (by decide +kernel)];exact hs),_,rfl,s,_,rfl,st'.get (be _ _ _),_,rfl,?_⟩;exact⟨a,ns,k+1,many,rfl,SqL.mo hS hmo hne,hlen,tG,by lia,hm,fun r r0 r1=>q r H' r0 r1 hmo st'⟩
end
def Smf (f:Addr) (H H':Hp):Prop:=∀ b o,b≠f→H b=some o→H' b=some o
theorem Smf.of {f:Addr} {H H':Hp} (s:ak H H'):Smf f H H':=fun b o _ e=>s b o e
theorem Smf.mo {f:Addr} {H H':Hp} (m:Mo H f H'):Smf f H H':=fun b o hb e=>by rw[m b hb];exact e
theorem Smf.trans {f:Addr} {H H1 H2:Hp} (a:Smf f H H1) (b:Smf f H1 H2):Smf f H H2:=fun c o hc e=>b c o hc (a c o hc e)
theorem StV.same {H H':Hp} {s:Addr} {n:Nat} {m:Str→Option V} (h:StV H s n m) (k:ak H H'):StV H' s n m:=by
 obtain⟨kvs,h1,h2⟩:=h;exact⟨kvs,k _ _ h1,h2⟩
theorem StV.smf {H H':Hp} {s f:Addr} {n:Nat} {m:Str→Option V} (h:StV H s n m) (k:Smf f H H') (ne:s≠f):StV H' s n m:=by
 obtain⟨kvs,h1,h2⟩:=h;exact⟨kvs,k _ _ ne h1,h2⟩
theorem StV.ne {H:Hp} {s L:Addr} {n:Nat} {m:Str→Option V} (h:StV H s n m) (hL:H L=none):L≠s:=fun e=>by
 obtain⟨kvs,h1,_⟩:=h;rw[e,h1] at hL;cases hL
def nms:List Str:=["a","ab","abc","x","y","thing","back","zzzzzzzz"]
section
variable {P:Program} {w:World} {K:Fg} {mg:SOV} {base:Heap}
structure Pk (K:Fg) (H:Hp) (s:Addr) (n:Nat) (m:Str→Option V) (a:Addr) (ns:List Int) (k:Int):Prop where
  st:StV H s n m
  hn:n≤1000
  sc:m "script"=some (.ref a)
  ne:a≠s
  sq:SqL K H a (ns.map V.int)
  len:ns.length≤63
  hk:m "k"=some (.int k)
  k0:0≤k
theorem Pk.same {H H':Hp} {s a:Addr} {n:Nat} {m:Str→Option V} {ns:List Int} {k:Int} (p:Pk K H s n m a ns k) (e:ak H H'):Pk K H' s n m a ns k:=⟨p.st.same e,p.hn,p.sc,p.ne,e.seq p.sq,p.len,p.hk,p.k0⟩
theorem Pk.next {H H':Hp} {s a:Addr} {n:Nat} {m:Str→Option V} {ns:List Int} {k:Int} (p:Pk K H s n m a ns k) (hm:Mo H s H') (st:StV H' s n (aJ m "k" (.int (k+1)))):Pk K H' s n (aJ m "k" (.int (k+1))) a ns (k+1) :=
 ⟨st,p.hn,by rw[aj _ _ (by decide +kernel)];exact p.sc,p.ne,SqL.mo p.sq hm p.ne,p.len,be _ _ _,by have:=p.k0;exact tG⟩
theorem bW (m:Str→Option V) (k:Str) (v u:V):aJ (aJ m k v) k u=aJ m k u:=by
 funext x
 unfold aJ;by_cases h:x=k
 · rw[if_pos h,if_pos h]
 · rw[if_neg h,if_neg h,if_neg h]
theorem mC {H:Hp} {s a:Addr} {n:Nat} {m:Str→Option V} {ns:List Int} {k many:Int} {Q:VK} {E:XK} (p:Pk K H s n m a ns k) (hk:k<1000000) (hm:0<many) (q:∀ r H',0≤r→r<many→Mo H s H'→Pk K H' s n (aJ m "k" (.int (k+1))) a ns (k+1)→Q (.int r) H'):iD K [.ref s,.int many] H Q E :=
 ⟨s,a,n,m,ns,k,many,rfl,p.st,p.hn,p.sc,p.ne,p.sq,p.len,p.hk,p.k0,hk,hm,fun r H' r0 r1 mo st=>q r H' r0 r1 mo (p.next mo st)⟩
abbrev sNm:Stmt:=top 14
inductive uv (K:Fg) (vs:List V) (H:Hp) (Q:VK):Prop
  | mk (s a:Addr) (n:Nat) (m:Str→Option V) (ns:List Int) (k:Int) (g0_:vs=[.ref s]) (g1_:Pk K H s n m a ns k) (g2_:k+2<1000000) (g3_:∀ z H',z∈nms→Smf s H H'→Pk K H' s n (aJ m "k" (.int (k+2))) a ns (k+2)→Q (.str z) H'):uv K vs H Q
def vo (K:Fg):Sp:=fun vs H Q _=>uv K vs H Q
theorem yf:aB ["_law_state","_law_names"] ["_law_state"] (a7 sNm):=fsM
theorem zf (D:Def K mg "_law_name" sNm) (T:Blt mg) (ab:Fn P w K mg base "_law_pick" 2 ["_law_state","_law_many"] (iD K)):Fn P w K mg base "_law_name" 3 ["_law_state"] (vo K):=by
 refine D.fn yf (fun vs H Q E h=>?_) (fun _ _ _ _ _ _ us hl=>by obtain⟨a,rfl⟩:=eK hl;rfl) (fun f cdv A outer s' H vs Q E hr h=>?_)
 · obtain⟨s,a,n,m,ns,k,rfl,_⟩:=h;rfl
 · obtain⟨s,a,n,m,ns,k,rfl,p,hk,q⟩:=h;have nd:=yf.nd;refine⟨_,(pE (pN (i:=1) nd rfl (Or.inl rfl) (ag (pA pD (pA pD (pA pD (pA pD (pA pD (pA pD (pA pD (pA pD pC))))))))))
 (pI (az (aq aH (pv 1) (aa ab (hr.mono (by decide)) rfl (pA (pv 0) (pA (aq aH (ag (pA pH (pA pH (pA pH pC)))) (aa ab (hr.mono (by decide)) rfl (pA (pv 0) (pA pH pC))) (fun _ _=>rfl)) pC))) (fun _ _=>rfl))))),?_⟩
   dsimp only[bJ,bN,bM];refine⟨DW,fun L hL=>?_⟩;have k1:=smu (o:=HO.lst (nms.map V.str)) hL;have g1:upd H L (.lst [V.str "a",V.str "ab",V.str "abc",V.str "x",V.str "y",V.str "thing",V.str "back",V.str "zzzzzzzz"])=upd H L (.lst (nms.map V.str)):=rfl;rw[g1];have hL1:(upd H L (.lst (nms.map V.str))) L=some (.lst (nms.map V.str)):=pG;have Ls:=p.st.ne hL;generalize upd H L (.lst (nms.map V.str))=H1 at k1 hL1 ⊢;have p1:=p.same k1;refine⟨_,rfl,_,rfl,ee,fun M hM=>?_⟩;have k2:=smu (o:=HO.lst [V.int 3,V.int 5,V.int 8]) hM;have hM2:(upd H1 M (.lst [V.int 3,V.int 5,V.int 8])) M=some (.lst [V.int 3,V.int 5,V.int 8]):=pG;have Ms:=p1.st.ne hM;have hL2:=k2 _ _ hL1;generalize upd H1 M (.lst [V.int 3,V.int 5,V.int 8])=H2 at k2 hM2 hL2 ⊢;have p2:=p1.same k2;refine⟨_,rfl,s,a,n,m,ns,k,3,rfl,p2.st,p2.hn,p2.sc,p2.ne,p2.sq,p2.len,p2.hk,p2.k0,CQ,by decide,fun r H3 r0 r1 mo st3=>?_⟩;have p3:=p2.next mo st3;obtain⟨i,rfl⟩:=Int.eq_ofNat_of_zero_le r0;obtain⟨c,hc,hc8⟩:∃ c:Nat,([V.int 3,V.int 5,V.int 8]:List V)[i]?=some (.int ((c:Nat):Int))∧0<c∧c≤8:=by
    have hi:i<3:=wO
    match i,hi with
    | 0,_=>exact⟨3,rfl,by decide,by decide⟩
    | 1,_=>exact⟨5,rfl,by decide,by decide⟩
    | 2,_=>exact⟨8,rfl,by decide,by decide⟩
   refine⟨M,_,_,_,rfl,rfl,SqL.of (by rw[mo M Ms];exact hM2),pJ hc,s,a,n,_,ns,k+1,_,rfl,p3.st,p3.hn,p3.sc,p3.ne,p3.sq,p3.len,p3.hk,p3.k0,CS,by lia,fun r' H4 r0' r1' mo' st4=>?_⟩;have p4:=p3.next mo' st4;obtain⟨j,rfl⟩:=Int.eq_ofNat_of_zero_le r0';have hj:j<nms.length:=by have:nms.length=8:=rfl;lia
   refine⟨L,_,_,.str nms[j],rfl,rfl,SqL.of (by rw[mo' L Ls,mo L Ls];exact hL2),pJ (by rw[gEM,gEE hj];rfl),?_⟩;rw[bW,show k+1+1=k+2 by lia] at p4;exact q _ _ (List.getElem_mem hj) (((Smf.of (k1.trans k2)).trans (Smf.mo mo)).trans (Smf.mo mo')) p4
abbrev sLy:Stmt:=top 20
inductive uA (K:Fg) (vs:List V) (H:Hp) (Q:VK):Prop
  | mk (s L ro r:Addr) (n:Nat) (m:Str→Option V) (p:Nat) (rs:List Addr) (ws zs:List Str) (g0_:vs=[.ref s,.ref L]) (g1_:StV H s n m) (g2_:m "rows"=some (.ref ro)) (g3_:m "part"=some (.int ((p:Nat):Int))) (g4_:H ro=some (.lst (rs.map V.ref))) (g5_:rs[p]?=some r) (g6_:H r=some (.lst (ws.map V.str))) (g7_:H L=some (.lst (zs.map V.str))) (g8_:L≠r) (g9_:ws.length+zs.length<1000000) (g10_:Q (.int (((ws++zs).length:Nat)-(1:Int))) (upd H r (.lst ((ws++zs).map V.str)))):uA K vs H Q
def rN (K:Fg):Sp:=fun vs H Q _=>uA K vs H Q
theorem yk:aB ["_law_state","_law_words","_law_row","_law_word"] ["_law_state","_law_words"] (a7 sLy):=fsM
theorem uV {H:Hp} {a:Addr} {o:HO} (h:H a=some o):upd H a o=H:=by
 funext b
 by_cases hb:b=a
 · rw[hb,pG,h]
 · rw[a9 hb]
theorem zo (D:Def K mg "_law_lay" sLy) (T:Blt mg):Fn P w K mg base "_law_lay" 1 ["_law_state","_law_words"] (rN K):=by
 refine D.fn yk (fun vs H Q E h=>?_) (fun _ _ _ _ _ _ us hl=>by obtain⟨a,b,rfl⟩:=il hl;rfl) (fun f cdv A outer s' H vs Q E hr h=>?_)
 · obtain⟨s,L,ro,r,n,m,p,rs,ws,zs,rfl,_⟩:=h;rfl
 · obtain⟨s,L,ro,r,n,m,p,rs,ws,zs,rfl,st,hro,hp,hR,hr',hW,hL,Lr,hz,q⟩:=h;have nd:=yk.nd;have hz0:(1000000:Nat)<sizeLine:=by decide
   have hu:=bX hr;refine⟨_,(pE (pN (i:=2) nd rfl (Or.inl rfl) (aq aH (pM hu (pv 0) pD (fun _ _=>rfl)) (pM hu (pv 0) pD (fun _ _=>rfl)) (fun _ _=>rfl)))
 (pE (bp PassesOwn.never rfl (bu (pv 1)) (ae (i:=3) nd rfl (Or.inl rfl))
 (pI (am (aX (pv 2) (pA (pv 3) pC)))))
 (pI (az (aC ck (bc T.len (pA (pv 2) pC)) pH))))),?_⟩
   dsimp only[bJ,bN,bM];refine a0 fun DQ Av=>?_;refine⟨_,rfl,s,_,rfl,st.get hro,_,rfl,s,_,rfl,st.get hp,ro,_,_,.ref r,rfl,rfl,SqL.of hR,pJ (by rw[gEM,hr'];rfl),?_⟩;refine Av _ _ (a0 fun DP Au=>?_);refine⟨_,rfl,L,rfl,⟨_,SqL.of hL⟩,?_⟩;show aw _ _ _ _ _ _;refine aw.byN (aK (xs:=zs.map V.str)) (fun i σ Hi=>Hi=upd H r (.lst ((ws++zs.take i).map V.str))∧∃ x3,σ=[some (.ref s),some (.ref L),some (.ref r),x3])
    ⟨by rw[List.take_zero,List.append_nil,uV hW],_,rfl⟩ (fun i σ Hi _ z=>SqL.of (by rw[z.1,a9 Lr];exact hL)) ?_ ?_
   · rintro i x σ Hi DL B_ As hB_ hx ⟨rfl,x3,rfl⟩;rw[gEM] at hx;obtain⟨z,hz',rfl⟩:=oMS.mp hx;have hi:i<zs.length:=(gES.mp hz').1;refine⟨_,rfl,.inl ⟨rfl,_,SqL.of pG⟩,_,rfl,r,_,_,rfl,rfl,pG,?_,?_⟩
     · rw[lMp,lAp,lTk];lia
     · refine As _ _ ?_;refine⟨?_,_,rfl⟩;rw[mj,tAO,hz'];simp
   · rintro σ Hi ⟨rfl,x3,rfl⟩;refine Au _ _ ?_;rw[lMp,List.take_length];refine⟨_,rfl,r,_,rfl,.inl (SqL.of pG),_,_,rfl,rfl,?_⟩;rw[lMp];exact q
end
section
variable {P:Program} {w:World} {K:Fg} {mg:SOV} {base:Heap}
abbrev sTl:Stmt:=top 21
inductive ul (K:Fg) (vs:List V) (H:Hp) (Q:VK):Prop
  | mk (s th:Addr) (n:Nat) (m:Str→Option V) (p at':Int) (x:V) (tkv:List (List Key×V)) (g0_:vs=[.ref s,.int at',x]) (g1_:StV H s n m) (g2_:m "things"=some (.ref th)) (g3_:m "part"=some (.int p)) (g4_:H th=some (.dT tkv)) (g5_:tkv.length<1000000) (g6_:∀ (H':Hp) (tkv':List (List Key×V)),Smf th H H'→H' th=some (.dT tkv')→tkv'.length≤tkv.length+1→Q .non H'):ul K vs H Q
def vn (K:Fg):Sp:=fun vs H Q _=>ul K vs H Q
theorem Bk:aB ["_law_state","_law_at","_law_thing"] ["_law_state","_law_at","_law_thing"] (a7 sTl):=fsM
theorem yY (D:Def K mg "_law_tell" sTl):Fn P w K mg base "_law_tell" 1 ["_law_state","_law_at","_law_thing"] (vn K):=by
 refine D.fn Bk (fun vs H Q E h=>?_) (fun _ _ _ _ _ _ us hl=>by obtain⟨a,b,c,rfl⟩:=fO hl;rfl) (fun f cdv A outer s' H vs Q E hr h=>?_)
 · obtain⟨s,th,n,m,p,at',x,tkv,rfl,_⟩:=h;rfl
 · obtain⟨s,th,n,m,p,at',x,tkv,rfl,st,hth,hp,hT,hz,q⟩:=h;have hu:=bX hr;have hz0:(1000000:Nat)<sizeLine:=by decide
   refine⟨_,(pI (bg hu (pM hu (pv 0) pD (fun _ _=>rfl)) (au (pA (pM hu (pv 0) pD (fun _ _=>rfl)) (pA (pv 1) pC))) (pv 2) rfl)),?_⟩;refine⟨_,rfl,_,rfl,s,_,rfl,st.get hth,_,rfl,s,_,rfl,st.get hp,_,rfl,gu,fun t ht=>?_⟩;have k1:=smu (o:=HO.tup [V.int p,V.int at']) ht;have ht1:(upd H t (.tup [V.int p,V.int at'])) t=some (.tup ([Sum.inl p,Sum.inl at'].map kV)):=pG;generalize upd H t (.tup [V.int p,V.int at'])=H1 at k1 ht1 ⊢;have hT1:=k1 _ _ hT;refine⟨th,_,rfl,dk.t hT1 ht1 (qO),?_⟩;exact q _ _ ((Smf.of k1).trans fun b o hb e=>by rw[a9 hb];exact e) pG (bq _ _ _)
end
theorem bm (n:Nat):(L2.bG 0 n).length=n:=by simp[L2.bG]
theorem Smf.put {f L:Addr} {H H2:Hp} {o:HO} (s:Smf f H H2) (h:H L=none):Smf f H (upd H2 L o):=fun b u hb e=>by
 rw[a9 (bh e h)];exact s b u hb e
theorem Smf.none {f b:Addr} {H H':Hp} (s:Smf f H H') (h:H' b=none) (hb:b≠f):H b=none:=by
 cases hq:H b with
 | none=>rfl
 | some o=>rw[s b o hb hq] at h;cases h
theorem SqL.smf {K:Fg} {H H':Hp} {f a:Addr} {xs:List V} (h:SqL K H a xs) (hm:Smf f H H') (ne:a≠f):SqL K H' a xs:=by
 rcases h with (h | ⟨o,h⟩) | h
 · exact .inl (.inl (hm _ _ ne h))
 · exact .inl (.inr ⟨o,hm _ _ ne h⟩)
 · exact .inr h
def KL (K:Fg) (a:Addr) (ns:List Int):Prop:=∃ (o:Obj) (its:Array Value) (n:Nat),K.lookup a=some o∧o.cls=.type "list"∧o.dict=none∧o.data=.seq its n∧its.size≤sizeLine∧aQ (ns.map V.int) its.toList
theorem Pk.put {K:Fg} {H:Hp} {s a L:Addr} {n:Nat} {m:Str→Option V} {ns:List Int} {k:Int} (p:Pk K H s n m a ns k) {xs ys:List V} (hL:H L=some (.lst xs)) (La:KL K a ns∨L≠a):Pk K (upd H L (.lst ys)) s n m a ns k:=by
 have Ls:s≠L:=fun e=>by
  obtain⟨kvs,h1,_⟩:=p.st;rw[e,hL] at h1;cases h1
 have sm:Smf L H (upd H L (.lst ys)):=fun b o hb e=>by rw[a9 hb];exact e
 exact⟨p.st.smf sm Ls,p.hn,p.sc,p.ne,La.elim (fun z=>.inr z) (fun z=>SqL.smf p.sq sm (Ne.symm z)),p.len,p.hk,p.k0⟩
section
variable {P:Program} {w:World} {K:Fg} {mg:SOV} {base:Heap}
abbrev sUn:Stmt:=top 15
inductive uj (K:Fg) (vs:List V) (H:Hp) (Q:VK):Prop
  | mk (s a O:Addr) (n:Nat) (m:Str→Option V) (ns:List Int) (k:Int) (os:List Str) (most:Nat) (g0_:vs=[.ref s,.ref O,.int ((most:Nat):Int)]) (g1_:Pk K H s n m a ns k) (g2_:(KL K a ns∨∃ b,H a=some b)) (g3_:k<900000) (g4_:H O=some (.lst (os.map V.str))) (g5_:most≤100) (g6_:∀ (W:Addr) (zs:List Str) (k':Int) (H':Hp),k≤k'→k'≤k+1+2*((most:Nat):Int)→zs.length≤most→(∀ z∈zs,z∈nms)→H W=none→H' W=some (.lst (zs.map V.str))→Smf s H H'→Pk K H' s n (aJ m "k" (.int k')) a ns k'→Q (.ref W) H'):uj K vs H Q
def vm (K:Fg):Sp:=fun vs H Q _=>uj K vs H Q
theorem xZ:aB ["_law_state","_law_others","_law_most","_law_found","_law_k","_law_name_here"] ["_law_state","_law_others","_law_most"] (a7 sUn):=fsM
theorem yW (D:Def K mg "_law_unlike" sUn) (T:Blt mg) (ab:Fn P w K mg base "_law_pick" 2 ["_law_state","_law_many"] (iD K)) (c6:Fn P w K mg base "_law_name" 3 ["_law_state"] (vo K)):Fn P w K mg base "_law_unlike" 4 ["_law_state","_law_others","_law_most"] (vm K):=by
 refine D.fn xZ (fun vs H Q E h=>?_) (fun _ _ _ _ _ _ us hl=>by obtain⟨a,b,c,rfl⟩:=fO hl;rfl) (fun f cdv A outer s' H vs Q E hr h=>?_)
 · obtain⟨s,a,O,n,m,ns,k,os,most,rfl,_⟩:=h;rfl
 · obtain⟨s,a,O,n,m,ns,k,os,most,rfl,p,hba,hk,hO,hmo,q⟩:=h;have nd:=xZ.nd;have hz0:(1000000:Nat)<sizeLine:=by decide
   refine⟨_,(pE (pN (i:=3) nd rfl (Or.inl rfl) (ag pC))
 (pE (bp PassesOwn.never rfl (bz rfl T.range (pA (aa ab (hr.mono (by decide)) rfl (pA (pv 0) (pA (aC bI (pv 2) pH) pC))) pC)) (ae (i:=4) nd rfl (Or.inl rfl))
 (pE (pN (i:=5) nd rfl (Or.inl rfl) (aa c6 (hr.mono (by decide)) rfl (pA (pv 0) pC)))
 (pI (aN (PW.pt (b8 (pO dC (pv 5) (pv 3) (by with_unfolding_all rfl)) (bn (pO dC (pv 5) (pv 1) (by with_unfolding_all rfl))))) (pI (am (aX (pv 3) (pA (pv 5) pC)))) aE))))
 (pI (az (pv 3))))),?_⟩
   dsimp only[bJ,bN,bM];refine⟨ef,fun W hW=>?_⟩;have k1:=smu (o:=HO.lst []) hW;have hW1:(upd H W (.lst [])) W=some (.lst []):=pG;have Ws:=p.st.ne hW;have Wa:KL K a ns∨W≠a:=hba.imp_right fun z e=>by obtain⟨b,hb⟩:=z;rw[e,hb] at hW;cases hW
   have Os:O≠s:=fun e=>by
    obtain⟨kvs,h1,_⟩:=p.st;rw[e,h1] at hO;cases hO
   have hO1:=k1 _ _ hO;have OW:O≠W:=fun e=>by rw[e,hW] at hO;cases hO
   generalize upd H W (.lst [])=H1 at k1 hW1 hO1 ⊢;have p1:=p.same k1;refine⟨_,rfl,_,rfl,_,_,rfl,rfl,s,a,n,m,ns,k,_,rfl,p1.st,p1.hn,p1.sc,p1.ne,p1.sq,p1.len,p1.hk,p1.k0,b_k,by lia,fun r H2 r0 r1 mo st2=>?_⟩;have p2:=p1.next mo st2;obtain⟨c,rfl⟩:=Int.eq_ofNat_of_zero_le r0;refine⟨_,rfl,oq,by lia,?_⟩;rw[show ((c:Nat):Int).toNat=c from Int.toNat_natCast c];show aw _ _ _ _ _ _;refine aw.byN (b4 (n:=c)) (fun i σ Hi=>Smf s H Hi∧Hi O=some (.lst (os.map V.str))∧(∃ k',k≤k'∧k'≤k+1+2*((i:Nat):Int)∧Pk K Hi s n (aJ m "k" (.int k')) a ns k')∧(∃ zs:List Str,Hi W=some (.lst (zs.map V.str))∧zs.length≤i∧∀ z∈zs,z∈nms)∧∃ x4 x5,σ=[some (.ref s),some (.ref O),some (.int ((most:Nat):Int)),some (.ref W),x4,x5])
    ⟨(Smf.of k1).trans (Smf.mo mo),by rw[mo O Os];exact hO1,⟨k+1,CP,by simp,p2⟩,⟨[],by rw[mo W Ws];exact hW1,Nat.le_refl _,by simp⟩,_,_,rfl⟩ (fun _ _ _ _ _=>trivial) ?_ ?_
   · rintro i x σ Hi N_ B_ hN_ hB_ hx ⟨sm,hOi,⟨k',c1,c2,pi⟩,⟨zs,hWi,hzl,hzn⟩,x4,x5,rfl⟩;have hic:i<c:=by have:=(gES.mp hx).1;rw[bm] at this;exact this
     refine⟨_,rfl,s,a,n,_,ns,k',rfl,pi,by lia,fun z H3 hz sm3 p3=>?_⟩;rw[bW] at p3;have hW3:=sm3 _ _ Ws hWi;have hO3:=sm3 _ _ Os hOi;have done:∀ (zs':List Str) (H4:Hp),Smf s H3 H4∨True→Smf s H H4→H4 O=some (.lst (os.map V.str))→Pk K H4 s n (aJ m "k" (.int (k'+2))) a ns (k'+2)→H4 W=some (.lst (zs'.map V.str))→zs'.length≤i+1→(∀ z∈zs',z∈nms) →
      Smf s H H4∧H4 O=some (.lst (os.map V.str))∧(∃ k',k≤k'∧k'≤k+1+2*(((i+1:Nat):Nat):Int)∧Pk K H4 s n (aJ m "k" (.int k')) a ns k')∧(∃ zs:List Str,H4 W=some (.lst (zs.map V.str))∧zs.length≤i+1∧∀ z∈zs,z∈nms)∧∃ x4 x5,([some (.ref s),some (.ref O),some (.int ((most:Nat):Int)),some (.ref W),some x,some (.str z)]:St)=[some (.ref s),some (.ref O),some (.int ((most:Nat):Int)),some (.ref W),x4,x5] :=
      fun zs' H4 _ h1 h2 h3 h4 h5 h6=>⟨h1,h2,⟨k'+2,tG,by lia,h3⟩,⟨zs',h4,h5,h6⟩,_,_,rfl⟩
     refine⟨_,rfl,_,rfl,W,_,rfl,.inl (SqL.of hW3),rfl,cB _,_,rfl,?_⟩;cases (!inV (V.str z) (zs.map V.str)) with
     | false=>exact aZ (hN_ _ _ (done zs H3 (.inr trivial) (sm.trans sm3) hO3 p3 hW3 (c_a) hzn))
     | true =>
      refine bx ⟨_,rfl,_,rfl,O,_,rfl,.inl (SqL.of hO3),rfl,cB _,_,rfl,?_⟩;cases (!inV (V.str z) (os.map V.str)) with
      | false=>exact aZ (hN_ _ _ (done zs H3 (.inr trivial) (sm.trans sm3) hO3 p3 hW3 (c_a) hzn))
      | true =>
       refine bx ⟨_,rfl,.inl ⟨rfl,_,SqL.of hW3⟩,_,rfl,W,_,_,rfl,rfl,hW3,by rw[lMp];lia,?_⟩;refine hN_ _ _ (done (zs++[z]) _ (.inr trivial) (Smf.put (sm.trans sm3) hW) (by rw[a9 OW];exact hO3) (p3.put hW3 Wa) (by rw[pG];simp) (by simp;assumption) fun y hy=>?_)
       rcases mAp.mp hy with hy | hy
       · exact hzn y hy
       · rw[mSg.mp hy];exact hz
   · rintro σ Hi ⟨sm,hOi,⟨k',c1,c2,pi⟩,⟨zs,hWi,hzl,hzn⟩,x4,x5,rfl⟩;rw[bm] at c2 hzl;exact⟨_,rfl,q W zs k' Hi c1 (by lia) (by lia) hzn hW hWi sm pi⟩
end
end K12
namespace PySem
open Sem (wp)
section
variable {prog:Program} {w:World} {K:Type} [DecidableEq K] (knd:KeyKind prog w K)
def cv (h:Heap) (k:K×List K) (a:Addr):Prop:=∃ o v b n,h.get? a=some o∧o.cls=.type "tuple"∧o.data=.seq #[v,.ref b] n∧knd.is k.1 v=true∧IsTupleKey knd h k.2 b
def ig (k:K×List K):Int:=reduceHash (Builtin.Tuple.tupleHashOf [knd.hash k.1,tupleKeyHash knd k.2])
variable {knd}
theorem cv.typeIs {s:Shared} {k:K×List K} {a:Addr} (x:cv knd s.heap k a):s.TypeIs (.ref a) "tuple":=by
 obtain⟨o,_,_,_,ho,hc,_⟩:=x;exact⟨o,ho,hc⟩
theorem cv.inj {h:Heap} {a:Addr} {x y:K×List K} (hx:cv knd h x a) (hy:cv knd h y a):x=y:=by
 obtain⟨o,v,b,n,ho,_,hd,hi,hb⟩:=hx;obtain⟨o',v',b',n',ho',_,hd',hi',hb'⟩:=hy;obtain rfl:o=o':=Option.some.inj (ho.symm.trans ho');rw[hd] at hd'
 injection hd' with h1 _
 have e:=congrArg Array.toList h1;cases e;exact Prod.ext (knd.inj _ _ _ hi hi') (hb.inj hb')
theorem cv.keeps {h h':Heap} {k:K×List K} {a d:Addr} {o:Obj} {es ep} (x:cv knd h k a) (ho:h.get? d=some o) (hd:o.data=.dict es ep) (hs:Heap.SameBut d h h'):cv knd h' k a:=by
 obtain⟨o',v,b,n,ho',hc,hd',hi,hb⟩:=x;have hne:a≠d:=by
  rintro rfl;obtain rfl:o'=o:=Option.some.inj (ho'.symm.trans ho);rw[hd] at hd';exact nomatch hd'
 exact⟨o',v,b,n,(hs.2 a hne).trans ho',hc,hd',hi,hb.keeps ho hd hs⟩
variable {A:Around} {E:VSP} {s:Shared}
theorem fE {k:K×List K} {a:Addr} {Q:Int→Shared→Prop} (hu:A.units+4<cLine) (hk:cv knd s.heap k a) (h:Q (ig knd k) {s with toks:=s.toks+(k.2.length+3)}) :
 wpAny (model prog w) A (pyHash (.ref a)) Q E s:=by
 have hT:=hk.typeIs;obtain⟨o,v,b,n,ho,_,hd,hi,hb⟩:=hk;have hu0:A.units<cLine:=by lia
 unfold pyHash
 first | unfold pyHashByItsType | skip
 first | refine wB (wpAny_cRoomFor_or (.inr hu0) ?_) | skip
 refine wB (wpAny_specialOf hT F.slot_tuple_hash.lookup ?_);show wpAny _ _ (if (some (Value.builtin "tuple.__hash__")==some Value.none)=true then _ else _) Q E s;rw[if_neg (by rw[beq_builtin_none];exact Bool.false_ne_true)];refine wB (wpAny_specialOf hT F.slot_tuple_hash.lookup ?_);show wpAny _ _ (callSpecialIfBoundUnlessNone? (.ref a) "__hash__" _>>=_) Q E s;refine wB (wpAny_callSpecialIfBoundUnlessNone?_slot hT F.slot_tuple_hash (wpAny_call_entry F.slot_tuple_hash hT F.entry_tuple_hash ?_ (F.args_tuple_hash_1 _)));show wpAny _ _ (Builtin.Tuple.tupleItemsOf (.ref a)>>=_) _ _ s;refine wB (wpAny_tupleItemsOf ho hd ?_);refine wB ?_;rw[← Array.forIn_toList];simp only[List.forIn_cons,List.forIn_nil];refine wB (wB (knd.pyHash hi (wP ?_)));refine wB (wB (wpAny_pyHash_tuple (knd:=knd) (ks:=k.2) (by show A.units+1<cLine;lia) hb (wP (wP ?_))));show wpAny _ _ (retInt (Builtin.Tuple.tupleHashOf [knd.hash k.1,tupleKeyHash knd k.2])) _ _ _;have et:s.toks+1+(k.2.length+1)+1=s.toks+(k.2.length+3):=by lia
 refine wpAny_ret_mkInt ?_;unfold ig reduceHash at h;generalize Builtin.Tuple.tupleHashOf [knd.hash k.1,tupleKeyHash knd k.2]=z at h ⊢;show wpAny _ _ (if (decide (-(2:Int) ^ 63≤z)&&decide (z<2 ^ 63))=true then _ else _) Q E _;by_cases hr:(decide (-(2:Int) ^ 63≤z)&&decide (z<2 ^ 63))=true
 · rw[if_pos hr];rw[if_pos hr] at h;exact wP (by dsimp only;rw[et];exact h)
 · rw[if_neg hr];rw[if_neg hr] at h;exact wB (wpAny_rule (wP (by dsimp only;rw[et];exact h)))
theorem jx {x y:K×List K} {a b:Addr} {P:Fin→Shared→Prop} (hu:A.units+4<cLine) (hx:cv knd s.heap x a) (hy:cv knd s.heap y b) (h:P (.done (.ret (.bool (decide (x=y))))) s) :
 wpAny (model prog w) A (Builtin.«tuple.__eq__» ⟨[.ref a,.ref b],[]⟩) P E s:=by
 have hTb:=hy.typeIs;obtain⟨oa,v,c,na,hoa,_,hda,hia,hca⟩:=hx;obtain⟨ob,v',c',nb,hob,_,hdb,hib,hcb⟩:=hy;show wpAny _ _ (isInstance (.ref b) (.type "tuple")>>=_) _ _ s;refine wB (wpAny_isInstance hTb isSubtype_tuple_tuple ?_);simp only[Bool.not_true,Bool.false_eq_true,if_false];refine wB (wpAny_tupleItemsOf hoa hda ?_);refine wB (wpAny_tupleItemsOf hob hdb ?_);refine wB ?_;simp only[List.zip_cons_cons,List.zip_nil_left,List.forIn_cons,List.forIn_nil];refine wB (wB (knd.eqBool (a:=x.1) (b:=y.1) hia hib ?_));by_cases h1:x.1=y.1
 · rw[decide_eq_true h1];simp only[Bool.not_true,Bool.false_eq_true,if_false];refine wP ?_;refine wB (wB (wpAny_eqBool_tuple (knd:=knd) (x:=x.2) (y:=y.2) (by lia) hca hcb ?_));by_cases h2:x.2=y.2
   · rw[decide_eq_true h2];simp only[Bool.not_true,Bool.false_eq_true,if_false];refine wP (wP ?_);have e:x=y:=Prod.ext h1 h2;rw[decide_eq_true e] at h;exact wP h
   · rw[decide_eq_false h2];simp only[Bool.not_false,if_true];have e:¬ x=y:=fun z=>h2 (congrArg Prod.snd z);rw[decide_eq_false e] at h;exact wB (wP (wP (wP (wP h))))
 · rw[decide_eq_false h1];simp only[Bool.not_false,if_true];have e:¬ x=y:=fun z=>h1 (congrArg Prod.fst z);rw[decide_eq_false e] at h;exact wB (wP (wP (wP (wP h))))
theorem fF {x y:K×List K} {a b:Addr} {Q:Bool→Shared→Prop} (hu:A.units+8<cLine) (hx:cv knd s.heap x a) (hy:cv knd s.heap y b) (h:Q (decide (x=y)) s) :
 wpAny (model prog w) A (eqBool (.ref a) (.ref b)) Q E s:=by
 unfold eqBool
 try with_reducible refine wpAny_holding ?_
 show wpAny _ _ (if (Value.ref a==Value.ref b)=true then _ else _) Q E s;by_cases hab:(Value.ref a==Value.ref b)=true
 · rw[if_pos hab];have e:a=b:=by have:=eq_of_beq hab;injection this
   subst e;obtain rfl:=hx.inj hy;exact wB (wpAny_rule (wP (by simpa using h)))
 · rw[if_neg hab];exact wB (wpAny_richCompare_same_room (op:=.Eq) hx.typeIs hy.typeIs F.slot_tuple_eq
     (wpAny_call_entry F.slot_tuple_eq hx.typeIs F.entry_tuple_eq (jx (by show A.units+1+4<cLine;lia) hx hy ⟨_,rfl,(fun e=>nomatch e),wpAny_truthy_bool h⟩) (F.args_tuple_eq_2 _ _)) (by lia))
theorem dA {n:Nat} {ks:List K} {a:Addr} {Q:Bool→Shared→Prop} (hk:IsTupleKey knd s.heap ks a) (h:Q true s):wpAny (model prog w) A (eqIsQuiet (n+1) (.ref a)) Q E s:=by
 have hT:=hk.typeIs;obtain⟨o,aA,m,ho,_,hd,hi⟩:=hk;unfold eqIsQuiet;refine wB (wpAny_specialOf hT F.slot_tuple_eq.lookup ?_);show wpAny _ _ (isInstance (.ref a) (.type "tuple")>>=_) _ _ s;refine wB (wpAny_isInstance hT isSubtype_tuple_tuple ?_);simp only[Bool.not_true,Bool.false_eq_true,if_false];refine wB (wpAny_seqItems ho hd ?_);refine wB ?_;show wpAny _ _ (forIn aA _ _) _ _ s;rw[← Array.forIn_toList];refine wpAny_forIn_list _ (fun d7 r s'=>r.1=none∧s'=s∧∀ v∈d7,carriedByValue v=true) _ ?_ ?_ _ _ ⟨rfl,rfl,hi.byValue⟩
 · rintro v d7 r s' ⟨hr,rfl,hall⟩;rw[eqIsQuiet_byValue _ (hall v mCS)];refine wB (wP ?_);simp only[Bool.not_true,Bool.false_eq_true,if_false];exact wP ⟨rfl,rfl,fun u hu'=>hall u (mCM _ hu')⟩
 · rintro⟨r1,r2⟩ s' ⟨hr,rfl,_⟩;simp only at hr;subst hr;exact wP h
theorem dQ {k:K×List K} {a:Addr} {Q:Bool→Shared→Prop} (hk:cv knd s.heap k a) (h:Q true s):wpAny (model prog w) A (eqIsQuiet 8 (.ref a)) Q E s:=by
 have hT:=hk.typeIs;obtain⟨o,v,b,m,ho,_,hd,hi,hb⟩:=hk;unfold eqIsQuiet;refine wB (wpAny_specialOf hT F.slot_tuple_eq.lookup ?_);show wpAny _ _ (isInstance (.ref a) (.type "tuple")>>=_) _ _ s;refine wB (wpAny_isInstance hT isSubtype_tuple_tuple ?_);simp only[Bool.not_true,Bool.false_eq_true,if_false];refine wB (wpAny_seqItems ho hd ?_);refine wB ?_;show wpAny _ _ (forIn #[v,Value.ref b] _ _) _ _ s;rw[← Array.forIn_toList];simp only[List.forIn_cons,List.forIn_nil];rw[eqIsQuiet_byValue _ (knd.byValue _ _ hi)];refine wB (wB (wP ?_));simp only[Bool.not_true,Bool.false_eq_true,if_false];refine wP ?_;refine wB (wB (dA (n:=6) hb ?_));simp only[Bool.not_true,Bool.false_eq_true,if_false];exact wP (wP (wP h))
end
def fM {prog:Program} {w:World} {K:Type} [DecidableEq K] (knd:KeyKind prog w K):HeapKind prog w (K×List K) where
  is:=cv knd
  hash:=ig knd
  draws:=fun k=>k.2.length+3
  room:=fun A=>A.units+8<cLine
  inj:=fun hx hy=>hx.inj hy
  keeps:=fun x ho hd hs=>x.keeps ho hd hs
  pyHash:=fun hu hk h=>fE (by lia) hk h
  eqBool:=fun hu hx hy h=>fF hu hx hy h
  quiet:=fun hk h=>dQ hk h
end PySem
namespace L2
open PySem PySem.Spec PyProof.Rows
abbrev NK:=Key×List Key
abbrev NKV:=List (NK×Addr×V)
abbrev eN:NKV→List (NK×Addr×Value)→Prop:=Paired fun p q=>p.1=q.1∧p.2.1=q.2.1∧aT p.2.2 q.2.2
def DNφ (P:Program) (w:World) (d:Addr) (kvs:NKV) (h:Heap):Prop :=
  kvs.length≤sizeLine∧(d==sysModules)=false∧∃ xs:List (NK×Addr×Value),eN kvs xs∧∃ o es ep,h.get? d=some o∧o.ExactDict∧o.data=.dict es ep∧es.toList=xs.map (entryOfKey (fM (ax P w)))∧(xs.map (·.1)).Nodup
def DN (P:Program) (w:World) (d:Addr) (kvs:NKV):HO:=.ext (DNφ P w d kvs)
section
variable {P:Program} {w:World} {H H':Hp} {h h':Heap} {d b:Addr} {kvs:NKV} {k:NK}
theorem tm (x:DNφ P w d kvs h) (k:∀ o,h.get? d=some o→h'.get? d=some o):DNφ P w d kvs h':=by
 obtain⟨z,y,xs,r,o,es,ep,e,c⟩:=x;exact⟨z,y,xs,r,o,es,ep,k o e,c⟩
theorem uc (x:DNφ P w d kvs h):bj P w H h d (DN P w d kvs):=by
 obtain⟨_,_,_,_,o,_,_,e,_⟩:=id x;exact⟨x,⟨o,e⟩,fun h1 h2 a b=>tm a b⟩
theorem AD (ok:HOk P w H h) (e:H d=some (DN P w d kvs)):DNφ P w d kvs h:=(ok d _ e).1
def cm (H:Hp) (b:Addr) (k:NK):Prop:=∃ p,H b=some (.tup [kV k.1,.ref p])∧H p=some (.tup (k.2.map kV))
def dJ (H:Hp) (kvs:NKV):Prop:=∀ x∈kvs,cm H x.2.1 x.1
theorem cm.is (ok:HOk P w H h) (n:cm H b k):(fM (ax P w)).is h k b:=by
 obtain⟨p,e1,e2⟩:=n;obtain⟨_,its,r,o,ho,hc,n,hd⟩:=(show bj P w H h b (.tup _) from ok b _ e1);obtain⟨u,v,rfl,ru,rv⟩:=r.two;cases (show v=Value.ref p from rv);exact⟨o,u,p,n,ho,hc,hd,gp ru,io ok e2⟩
theorem cm.keep (n:cm H b k) (ht:∀ c ys,H c=some (.tup ys)→H' c=some (.tup ys)):cm H' b k:=by
 obtain⟨p,e1,e2⟩:=n;exact⟨p,ht _ _ e1,ht _ _ e2⟩
theorem dJ.keep (n:dJ H kvs) (ht:∀ c ys,H c=some (.tup ys)→H' c=some (.tup ys)):dJ H' kvs:=fun x hx=>(n x hx).keep ht
theorem eN.all (ok:HOk P w H h) {xs:List (NK×Addr×Value)} (r:eN kvs xs) (n:dJ H kvs):∀ x∈xs,(fM (ax P w)).is h x.1 x.2.1:=by
 induction (show Paired _ kvs xs from r) with
 | nil=>exact fun x hx=>by cases hx
 | cons z t ih =>
  intro x hx
  rcases List.mem_cons.mp hx with rfl | hx
  · obtain⟨e1,e2,_⟩:=z;have:=(n _ mCS).is ok;rw[e1,e2] at this;exact this
  · exact ih t (fun y hy=>n y (mCM _ hy)) x hx
theorem eN.length {xs:List (NK×Addr×Value)} (r:eN kvs xs):kvs.length=xs.length:=Paired.length r
def putN (kvs:NKV) (k:NK) (b:Addr) (v:V):NKV:=if (kvs.any fun x=>decide (x.1=k)) then kvs.map (fun x=>if x.1=k then (x.1,x.2.1,v) else x) else kvs++[(k,b,v)]
theorem dZ (kvs:NKV) (k:NK) (b:Addr) (v:V):(putN kvs k b v).length≤kvs.length+1:=by
 unfold putN;split <;> simp
theorem eN.any {xs:List (NK×Addr×Value)} (r:eN kvs xs) (k:NK):(kvs.any fun x=>decide (x.1=k))=(atKey xs k).isSome:=by
 induction (show Paired _ kvs xs from r) with
 | nil=>rfl
 | @cons p q _ _ z t ih =>
  obtain⟨e1,_,_⟩:=z;rw[List.any_cons,ih t];by_cases h:q.1=k
  · simp[atKey,List.find?_cons,e1,h]
  · simp[atKey,List.find?_cons,e1,h]
theorem eN.repl {xs:List (NK×Addr×Value)} (r:eN kvs xs) (k:NK) {y:V} {u:Value} (ry:aT y u):eN (kvs.map fun x=>if x.1=k then (x.1,x.2.1,y) else x) (xs.map (putAt k u)):=by
 induction (show Paired _ kvs xs from r) with
 | nil=>exact .nil
 | @cons p q _ _ z t ih =>
  obtain⟨e1,e2,e3⟩:=z;rw[List.map_cons,List.map_cons];refine .cons ?_ (ih t);unfold putAt;by_cases h:q.1=k
  · rw[if_pos h,if_pos (e1.trans h)];exact⟨e1,e2,ry⟩
  · rw[if_neg h,if_neg (fun z=>h (e1.symm.trans z))];exact⟨e1,e2,e3⟩
theorem eN.snoc {xs:List (NK×Addr×Value)} (r:eN kvs xs) (k:NK) (b:Addr) {y:V} {u:Value} (ry:aT y u):eN (kvs++[(k,b,y)]) (xs++[(k,b,u)]):=by
 induction (show Paired _ kvs xs from r) with
 | nil=>exact .cons ⟨rfl,rfl,ry⟩ .nil
 | cons z t ih=>exact .cons z (ih t)
theorem eN.put {xs:List (NK×Addr×Value)} (r:eN kvs xs) (k:NK) (b:Addr) {y:V} {u:Value} (ry:aT y u):eN (putN kvs k b y) (storedH xs k b u):=by
 unfold putN storedH;rw[r.any k];split
 · exact r.repl k ry
 · exact r.snoc k b ry
end
section
variable {X:Cx} {pins:AOs} {σ:St} {H:Hp} {s:Shared} {d b:Addr} {kvs:NKV} {k:NK} {v:V} {r:Value} {A:Around} {E:VSP}
theorem lP {Q:Unit→Shared→Prop} (hu:A.units+10<cLine) (I:Inv X pins σ H s) (e:H d=some (DN X.prog X.w d kvs)) (na:dJ H kvs) (nb:cm H b k) (hl:kvs.length<sizeLine) (rv:aT v r)
 (h:∀ s',Inv X pins σ (upd H d (DN X.prog X.w d (putN kvs k b v))) s'→Q () s'):wpAny (model X.prog X.w) A (setItem (.ref d) (.ref b) r) Q E s:=by
 obtain⟨z,hd,xs,rel,o,es,ep,h1,h2,h3,h4,h5⟩:=AD I.hok e;have dd:s.heap.DictOfH (fM (ax X.prog X.w)) d xs:=⟨o,es,ep,h1,h2,h3,h4,rel.all I.hok na,h5⟩;have hz:xs.length≤sizeLine:=by rw[← rel.length];exact z
 have hp:(putN kvs k b v).length≤sizeLine:=by have:=dZ kvs k b v;lia
 refine wpAny_setItem_heap (hsz:=hz) (show A.units+1+8<cLine by lia) (nb.is I.hok) dd fun h' dd' hs=>h _ ?_;obtain⟨q,es',ep',hq,g2,g3,g4,_,g5⟩:=dd';exact dF I (by rw[e];exact True.intro) hs ⟨q,hq⟩ (uc ⟨hp,hd,_,rel.put k b rv,q,es',ep',hq,g2,g3,g4,g5⟩)
end
def tX (P:Program) (w:World) (td ty tv:TE):TS:=fun D σ H=>tv σ H fun v H1=>td σ H1 fun x H2=>ty σ H2 fun y H3=>∃ d b kvs k,x=.ref d∧y=.ref b∧H3 d=some (DN P w d kvs)∧dJ H3 kvs∧cm H3 b k∧kvs.length<sizeLine∧D.nx σ (upd H3 d (DN P w d (putN kvs k b v)))
def ve (P:Program) (w:World):TE:=fun _ H Q=>∀ p,H p=none→Q (.ref p) (upd H p (DN P w p []))
section
variable {X:Cx} {pos pos':Pos} {o i value:Expr} {td ty tv:TE}
theorem mz (hu:X.A.units+10<cLine) (ho:PE X o td) (hi:PE X i ty) (hv:PE X value tv) (hs:swapsWith value (some (.Subscript o i pos')) pos.line X.env=pure false) :
 PS X (.Assign [.Subscript o i pos'] value pos) (tX X.prog X.w td ty tv):=by
 intro pins s σ H D I h;refine wpAny_Assign_Subscript (thn (hv pins s σ H _ I h) fun r s1 zz81=>?_) hs;obtain⟨v,H1,I1,rv,q1⟩:=zz81;refine thn (ho pins s1 σ H1 _ I1 q1) fun u s2 zz82=>?_;obtain⟨x,H2,I2,rx,q2⟩:=zz82;refine thn (hi pins s2 σ H2 _ I2 q2) fun iv s3 zz83=>?_;obtain⟨y,H3,I3,ry,d,b,kvs,k,ex,ey,e,na,nb,hl,q3⟩:=zz83;subst ex ey;obtain rfl:u=Value.ref d:=rx;obtain rfl:iv=Value.ref b:=ry;exact lP hu I3 e na nb hl rv fun s4 I4=>⟨σ,_,I4,q3⟩
theorem kB:PE X (.Dict [] [] pos) (ve X.prog X.w):=fun pins s σ H Q I h =>
 wpAny_Dict_empty ⟨.ref s.heap.objs.size,_,I.laid (a:=s.heap.objs.size) (o:=DN X.prog X.w s.heap.objs.size []) (t':=s.toks) (fun _ _ q=>hpS _ q) (Nat.le_refl _)
   (uc ⟨Nat.zero_le _,beq_eq_false_iff_ne.mpr (Ne.symm (Nat.ne_of_lt I.big)),[],.nil,_,#[],0,Heap.get?_push_size _ rfl,⟨rfl,rfl,rfl⟩,rfl,rfl,List.nodup_nil⟩),rfl,h _ (I.hok.fresh (Nat.le_refl _))⟩
end
end L2
namespace PySem
open Sem (wp)
section
variable {prog:Program} {w:World} {A:Around} {E:VSP} {s:Shared}
theorem pS {d:Addr} {o:Obj} {es:Array DictEntry} {ep:Nat} {Q:VSP} (hd:(d==sysModules)=false) (ho:s.heap.get? d=some o) (hc:o.ExactDict) (hdat:o.data=.dict es ep)
 (hQ:Q (.ref s.heap.objs.size) {s with heap:=s.heap.push {cls:=.type "dict_keyiterator",data:=.fields #[.ref d,.int 0 0,.int es.size 0,.int ep 0]}}) :
 wpAny (model prog w) A (pyIter (.ref d)) Q E s:=by
 have hT:s.TypeIs (.ref d) "dict":=⟨o,ho,hc.1⟩;refine wpAny_pyIter_slot hT F.slot_dict_iter (wpAny_call_entry F.slot_dict_iter hT F.entry_dict_iter ?_ (F.args_dict_iter_1 _));unfold Builtin.«dict.__iter__»;refine wB ?_;unfold Builtin.Dict.dictSlotNone;refine wB (wpAny_notOrdered_dict hT ?_);show wpAny _ _ (pure (Value.ref d)) _ _ s;refine wP ?_;show wpAny _ _ (Builtin.Dict.showsAll d>>=_) _ _ s;unfold Builtin.Dict.showsAll;rw[if_neg (by rw[hd];exact Bool.false_ne_true)];refine wB (wP ?_);refine wB (wpAny_dictEntries ho hdat ?_);refine wB (wpAny_dictEpoch ho hdat ?_);refine wB (wpAny_newObj_type (wP ⟨_,rfl,"dict_keyiterator",_,⟨_,Heap.get?_push_size _ rfl,rfl⟩,F.slot_dict_keyiterator_next.lookup,?_⟩))
 simpa [rawInt] using hQ
theorem pR {it d:Addr} {i:Nat} {o':Obj} {es:Array DictEntry} {ep:Nat} {Q:Option Value→Shared→Prop} (hit:s.heap.IsKeyIter it d i es.size ep) (hod:s.heap.get? d=some o') (hdd:o'.data=.dict es ep) (hlt':i<es.size)
 (hQ:∀ h',h'.IsKeyIter it d (i+1) es.size ep→Heap.SameBut it s.heap h'→Q (some es[i].key) {s with heap:=h'}) :
 wpAny (model prog w) A (pyNext (.ref it)) Q E s:=by
 obtain⟨o,ho,hc,hd⟩:=id hit;unfold pyNext;refine wB (wpAny_attempt (wpAny_callSpecial?_slot (name:=Str.ofString "__next__") hit.typeIs F.slot_dict_keyiterator_next
   (wpAny_call_entry F.slot_dict_keyiterator_next hit.typeIs F.entry_dict_keyiterator_next ?_ (F.args_dict_keyiterator_next_1 _))))
 refine wB (wP ?_);refine wB ?_;refine wB ?_
 first | refine wB (wpAny_typeNameOfWhole_keyiter hit.typeIs (wP ?_)) | refine wB (wpAny_typeNameOf_keyiter hit.typeIs (wP ?_))
 refine wB (wpAny_fieldsOf ho hd ?_);have hown:Builtin.Dict_items.ownsTuple "dict_keyiterator"=false:=by decide
 simp -iota only[hown,Bool.false_eq_true,if_false];show wpAny _ _ (if (Value.ref d==Value.none)=true then _ else _) _ _ s;rw[if_neg (show ¬ ((Value.ref d==Value.none)=true) from Bool.false_ne_true)];refine wB (wP ?_);refine wB (wpAny_dictEntries hod hdd ?_);rw[if_neg (by simp)];refine wB (wP ?_);refine wB (wpAny_dictEpoch hod hdd ?_);rw[if_neg (by simp)];refine wP ?_;dsimp only;simp -iota only[show ¬ ((i:Int)<0) from by lia,if_false,Int.toNat_natCast,Array.getElem?_eq_getElem hlt'];refine wB ?_
 first | refine wB (wpAny_typeNameOfWhole_keyiter hit.typeIs (wP ?_)) | refine wB (wpAny_typeNameOf_keyiter hit.typeIs (wP ?_))
 refine wB (wpAny_isOneOf_keyiter hit.typeIs ?_);show wpAny _ _ (setField (.ref it) 1 (rawInt ((i:Int)+1))>>=_) _ _ s;refine wB (wpAny_setField ho hd (by simp) ?_);have hit':(s.heap.update it (Obj.mapFields (·.setIfInBounds 1 (rawInt ((i:Int)+1))))).IsKeyIter it d (i+1) es.size ep :=
  ⟨_,Heap.get?_update_self _ ho (Obj.isFreed_of_fields (Obj.data_mapFields hd _)),(Obj.cls_mapFields ..).trans hc,by rw[Obj.data_mapFields hd];simp[rawInt]⟩
 refine wB (wpAny_holding ?_);refine wB (wpAny_isOneOf_keyiter (s:={s with heap:=s.heap.update it (Obj.mapFields (·.setIfInBounds 1 (rawInt ((i:Int)+1))))}) hit'.typeIs ?_);show wpAny _ _ (pure es[i].key) _ _ _;exact wP (wP ⟨_,rfl,wP (hQ _ hit' (Heap.SameBut.update ..))⟩)
theorem rZ {it d:Addr} {i:Nat} {o':Obj} {es:Array DictEntry} {ep:Nat} {Q:Option Value→Shared→Prop} (hh:A.handled=none) (hit:s.heap.IsKeyIter it d i es.size ep) (hod:s.heap.get? d=some o') (hdd:o'.data=.dict es ep) (hge:es.size≤i)
 (hQ:∀ h',Heap.ExtBut it s.heap h'→Q none {s with heap:=h'}):wpAny (model prog w) A (pyNext (.ref it)) Q E s:=by
 obtain⟨o,ho,hc,hd⟩:=id hit;unfold pyNext;refine wB (wpAny_attempt (wpAny_callSpecial?_slot (name:=Str.ofString "__next__") hit.typeIs F.slot_dict_keyiterator_next
   (wpAny_call_entry F.slot_dict_keyiterator_next hit.typeIs F.entry_dict_keyiterator_next ?_ (F.args_dict_keyiterator_next_1 _))))
 refine wB (wP ?_);refine wB ?_;refine wB ?_
 first | refine wB (wpAny_typeNameOfWhole_keyiter hit.typeIs (wP ?_)) | refine wB (wpAny_typeNameOf_keyiter hit.typeIs (wP ?_))
 refine wB (wpAny_fieldsOf ho hd ?_);have hown:Builtin.Dict_items.ownsTuple "dict_keyiterator"=false:=by decide
 simp -iota only[hown,Bool.false_eq_true,if_false];show wpAny _ _ (if (Value.ref d==Value.none)=true then _ else _) _ _ s;rw[if_neg (show ¬ ((Value.ref d==Value.none)=true) from Bool.false_ne_true)];refine wB (wP ?_);refine wB (wpAny_dictEntries hod hdd ?_);rw[if_neg (by simp)];refine wB (wP ?_);refine wB (wpAny_dictEpoch hod hdd ?_);rw[if_neg (by simp)];refine wP ?_;dsimp only;simp -iota only[show ¬ ((i:Int)<0) from by lia,if_false,Int.toNat_natCast,Array.getElem?_eq_none hge];refine wB ?_
 first | refine wB (wpAny_typeNameOfWhole_keyiter hit.typeIs (wP ?_)) | refine wB (wpAny_typeNameOf_keyiter hit.typeIs (wP ?_))
 show wpAny _ _ (setField (.ref it) 0 .none>>=_) _ _ s;refine wB (wpAny_setField ho hd (by simp) ?_);show wpAny _ _ (newExc (.type "StopIteration") []>>=_) _ _ _;refine wB ?_;simp only[newExc,newTuple];refine wB (wpAny_newObj_type ?_ (by size_fits));refine wB (m:=firstArgMember _ _) (wpAny_of_eq (a:=Value.none) (by first | rfl | (simp only[firstArgMember];rfl)) ?_);refine wpAny_newObj_type ?_ (by size_fits);simp only[raiseNew];refine wB (wpAny_handled ?_);rw[show A.in1.handled=none from hh];refine wB (wP (wpAny_throw ?_));refine wB (wpAny_isInstance (T:="StopIteration") (b:=true) ⟨_,Heap.get?_push_size _ rfl,rfl⟩ isSubtype_stop ?_);exact wP (hQ _ (((Heap.SameBut.update ..).extBut.push _).push _))
end
end PySem
namespace L2
open PySem PySem.Spec PyProof.Rows
end L2
namespace K12
open PySem L2 P10
structure Adr where
  s:Addr
  a:Addr
  ro:Addr
  rs:List Addr
  th:Addr
  no:Addr
  sp:Addr
  se:Addr
structure SI (P:Program) (w:World) (K:Fg) (H:Hp) (A:Adr) (n:Nat) (m:Str→Option V) (ns:List Int) (k:Int) (B:Nat) (skv:NKV):Prop where
  pk:Pk K H A.s n m A.a ns k
  al:KL K A.a ns∨∃ b,H A.a=some b
  ro:m "rows"=some (.ref A.ro)
  rv:H A.ro=some (.lst (A.rs.map V.ref))
  rw:∀ r∈A.rs,∃ ws:List Str,H r=some (.lst (ws.map V.str))∧ws.length≤B
  rne:A.ro∉A.rs
  ra:KL K A.a ns∨A.a∉A.rs
  th:m "things"=some (.ref A.th)
  tv:∃ kv,H A.th=some (.dT kv)∧kv.length≤B
  no:m "nodes"=some (.ref A.no)
  nv:∃ kv,H A.no=some (.dT kv)∧kv.length≤B
  sp:m "spans"=some (.ref A.sp)
  sv:H A.sp=some (DN P w A.sp skv)
  sa:dJ H skv
  sl:skv.length≤B
  se:m "seen"=some (.ref A.se)
  ev:∃ kv,H A.se=some (DN P w A.se kv)∧dJ H kv∧kv.length≤B
  ne:A.sp≠A.se
def ac (A:Adr) (H H':Hp):Prop:=∀ b o,b≠A.s→b∉A.rs→b≠A.th→b≠A.no→b≠A.sp→b≠A.se→H b=some o→H' b=some o
theorem ac.of {A:Adr} {H H':Hp} (s:ak H H'):ac A H H':=fun b o _ _ _ _ _ _ e=>s b o e
theorem ac.trans {A:Adr} {H H1 H2:Hp} (x:ac A H H1) (y:ac A H1 H2):ac A H H2:=fun b o h1 h2 h3 h4 h5 h6 e=>y b o h1 h2 h3 h4 h5 h6 (x b o h1 h2 h3 h4 h5 h6 e)
section
variable {P:Program} {w:World} {K:Fg} {H H':Hp} {A:Adr} {n:Nat} {m:Str→Option V} {ns:List Int} {k:Int} {B:Nat} {skv:NKV}
theorem SI.same (x:SI P w K H A n m ns k B skv) (e:ak H H'):SI P w K H' A n m ns k B skv where
 pk:=x.pk.same e
 al:=x.al.imp_right fun ⟨b,hb⟩=>⟨b,e _ _ hb⟩
 ro:=x.ro
 rv:=e _ _ x.rv
 rw:=fun r hr=>by obtain⟨ws,h1,h2⟩:=x.rw r hr;exact⟨ws,e _ _ h1,h2⟩
 rne:=x.rne
 ra:=x.ra
 th:=x.th
 tv:=by obtain⟨kv,h1,h2⟩:=x.tv;exact⟨kv,e _ _ h1,h2⟩
 no:=x.no
 nv:=by obtain⟨kv,h1,h2⟩:=x.nv;exact⟨kv,e _ _ h1,h2⟩
 sp:=x.sp
 sv:=e _ _ x.sv
 sa:=x.sa.keep fun c ys z=>e _ _ z
 sl:=x.sl
 se:=x.se
 ev:=by obtain⟨kv,h1,h2,h3⟩:=x.ev;exact⟨kv,e _ _ h1,h2.keep fun c ys z=>e _ _ z,h3⟩
 ne:=x.ne
theorem SI.more (x:SI P w K H A n m ns k B skv) {B':Nat} (h:B≤B'):SI P w K H A n m ns k B' skv :=
 { x with
   rw:=fun r hr=>by obtain⟨ws,h1,h2⟩:=x.rw r hr;exact⟨ws,h1,Nat.le_trans h2 h⟩
   tv:=by obtain⟨kv,h1,h2⟩:=x.tv;exact⟨kv,h1,Nat.le_trans h2 h⟩
   nv:=by obtain⟨kv,h1,h2⟩:=x.nv;exact⟨kv,h1,Nat.le_trans h2 h⟩
   sl:=Nat.le_trans x.sl h
   ev:=by obtain⟨kv,h1,h2,h3⟩:=x.ev;exact⟨kv,h1,h2,Nat.le_trans h3 h⟩ }
theorem SI.sne (x:SI P w K H A n m ns k B skv) {b:Addr} {o:HO} (h:H b=some o) (hd:∀ kvs,o≠.dK kvs):b≠A.s:=fun e=>by
 obtain⟨kvs,h1,_⟩:=x.pk.st;rw[e,h1] at h;exact hd kvs (Option.some.inj h).symm
theorem SI.put (x:SI P w K H A n m ns k B skv) {m':Str→Option V} {k':Int} (mo:Mo H A.s H') (pk':Pk K H' A.s n m' A.a ns k') (e1:m' "rows"=m "rows") (e2:m' "things"=m "things") (e3:m' "nodes"=m "nodes") (e4:m' "spans"=m "spans") (e5:m' "seen"=m "seen"):SI P w K H' A n m' ns k' B skv:=by
 have kp:∀ {b:Addr} {o:HO},H b=some o→(∀ kvs,o≠.dK kvs)→H' b=some o:=fun {b o} h hd=>by rw[mo b (x.sne h hd)];exact h
 have kt:∀ c ys,H c=some (.tup ys)→H' c=some (.tup ys):=fun c ys h=>kp h fun kvs z=>nomatch z;exact
 { pk:=pk'
   al:=x.al.imp_right fun ⟨b,hb⟩=>⟨b,by rw[mo A.a x.pk.ne];exact hb⟩
   ro:=by rw[e1];exact x.ro
   rv:=kp x.rv fun kvs z=>nomatch z
   rw:=fun r hr=>by obtain⟨ws,h1,h2⟩:=x.rw r hr;exact⟨ws,kp h1 (fun kvs z=>nomatch z),h2⟩
   rne:=x.rne
   ra:=x.ra
   th:=by rw[e2];exact x.th
   tv:=by obtain⟨kv,h1,h2⟩:=x.tv;exact⟨kv,kp h1 (fun kvs z=>nomatch z),h2⟩
   no:=by rw[e3];exact x.no
   nv:=by obtain⟨kv,h1,h2⟩:=x.nv;exact⟨kv,kp h1 (fun kvs z=>nomatch z),h2⟩
   sp:=by rw[e4];exact x.sp
   sv:=kp x.sv fun kvs z=>nomatch z
   sa:=x.sa.keep kt
   sl:=x.sl
   se:=by rw[e5];exact x.se
   ev:=by obtain⟨kv,h1,h2,h3⟩:=x.ev;exact⟨kv,kp h1 (fun kvs z=>nomatch z),h2.keep kt,h3⟩
   ne:=x.ne }
theorem SI.laid (x:SI P w K H A n m ns k B skv) {r:Addr} {ws:List Str} (hr:r∈A.rs) (hw:ws.length≤B):SI P w K (upd H r (.lst (ws.map V.str))) A n m ns k B skv:=by
 obtain⟨ws0,h0,_⟩:=x.rw r hr;have kp:∀ {b:Addr} {o:HO},H b=some o→(∀ ys,o≠.lst ys)→(upd H r (.lst (ws.map V.str))) b=some o:=fun {b o} h hd=>by
  rw[a9 fun e=>by rw[e,h0] at h;exact hd _ (Option.some.inj h).symm];exact h
 have kt:∀ c ys,H c=some (.tup ys)→(upd H r (.lst (ws.map V.str))) c=some (.tup ys):=fun c ys h=>kp h fun kvs z=>nomatch z;have ar:KL K A.a ns∨r≠A.a:=x.ra.imp_right fun z e=>z (e▸hr);have rr:A.ro≠r:=fun e=>x.rne (e▸hr);exact
 { pk:=x.pk.put h0 ar
   al:=by
     rcases x.al with z | ⟨b,hb⟩
     · exact .inl z
     · by_cases e:A.a=r
       · exact .inr ⟨_,by rw[e];exact pG⟩
       · exact .inr ⟨b,by rw[a9 e];exact hb⟩
   ro:=x.ro
   rv:=by rw[a9 rr];exact x.rv
   rw:=fun r' hr'=>by
     by_cases e:r'=r
     · subst e;exact⟨ws,pG,hw⟩
     · obtain⟨ws',h1,h2⟩:=x.rw r' hr';exact⟨ws',by rw[a9 e];exact h1,h2⟩
   rne:=x.rne
   ra:=x.ra
   th:=x.th
   tv:=by obtain⟨kv,h1,h2⟩:=x.tv;exact⟨kv,kp h1 (fun kvs z=>nomatch z),h2⟩
   no:=x.no
   nv:=by obtain⟨kv,h1,h2⟩:=x.nv;exact⟨kv,kp h1 (fun kvs z=>nomatch z),h2⟩
   sp:=x.sp
   sv:=kp x.sv fun kvs z=>nomatch z
   sa:=x.sa.keep kt
   sl:=x.sl
   se:=x.se
   ev:=by obtain⟨kv,h1,h2,h3⟩:=x.ev;exact⟨kv,kp h1 (fun kvs z=>nomatch z),h2.keep kt,h3⟩
   ne:=x.ne }
theorem SI.told (x:SI P w K H A n m ns k B skv) {kv':List (List Key×V)} (sm:Smf A.th H H') (h':H' A.th=some (.dT kv')) (hl:kv'.length≤B+1):SI P w K H' A n m ns k (B+1) skv:=by
 obtain⟨kv0,h0,_⟩:=x.tv;have kp:∀ {b:Addr} {o:HO},H b=some o→(∀ ys,o≠.dT ys)→H' b=some o:=fun {b o} h hd=>sm b o (fun e=>by rw[e,h0] at h;exact hd _ (Option.some.inj h).symm) h;have kt:∀ c ys,H c=some (.tup ys)→H' c=some (.tup ys):=fun c ys h=>kp h fun kvs z=>nomatch z;obtain⟨kvs,hs,hn,hv⟩:=x.pk.st;have sq':SqL K H' A.a (ns.map V.int):=by
  rcases x.pk.sq with (z | ⟨o,z⟩) | z
  · exact .inl (.inl (kp z fun kvs z=>nomatch z))
  · exact .inl (.inr ⟨o,kp z fun kvs z=>nomatch z⟩)
  · exact .inr z
 exact
 { pk:=⟨⟨kvs,kp hs (fun kvs z=>nomatch z),hn,hv⟩,x.pk.hn,x.pk.sc,x.pk.ne,sq',x.pk.len,x.pk.hk,x.pk.k0⟩
   al:=x.al.imp_right fun ⟨b,hb⟩=>by
     by_cases e:A.a=A.th
     · exact⟨_,by rw[e];exact h'⟩
     · exact⟨b,sm _ _ e hb⟩
   ro:=x.ro
   rv:=kp x.rv fun kvs z=>nomatch z
   rw:=fun r hr=>by obtain⟨ws,h1,h2⟩:=x.rw r hr;exact⟨ws,kp h1 (fun kvs z=>nomatch z),c_a⟩
   rne:=x.rne
   ra:=x.ra
   th:=x.th
   tv:=⟨kv',h',hl⟩
   no:=x.no
   nv:=by
     obtain⟨kv,h1,h2⟩:=x.nv;by_cases e:A.no=A.th
     · exact⟨kv',by rw[e];exact h',hl⟩
     · exact⟨kv,sm _ _ e h1,c_a⟩
   sp:=x.sp
   sv:=kp x.sv fun kvs z=>nomatch z
   sa:=x.sa.keep kt
   sl:=by have:=x.sl;exact c_a
   se:=x.se
   ev:=by obtain⟨kv,h1,h2,h3⟩:=x.ev;exact⟨kv,kp h1 (fun kvs z=>nomatch z),h2.keep kt,c_a⟩
   ne:=x.ne }
theorem ac.mo (mo:Mo H A.s H'):ac A H H':=fun b o h1 _ _ _ _ _ e=>by rw[mo b h1];exact e
theorem ac.laid {r:Addr} {o':HO} (hr:r∈A.rs):ac A H (upd H r o'):=fun b o _ h2 _ _ _ _ e=>by
 have ne:b≠r:=fun z=>h2 (by rw[z];exact hr);rw[a9 ne];exact e
theorem ac.told (sm:Smf A.th H H'):ac A H H':=fun b o _ _ h3 _ _ _ e=>sm b o h3 e
theorem ac.tk (x:SI P w K H A n m ns k B skv) (kp:ac A H H'):∀ c ys,H c=some (.tup ys)→H' c=some (.tup ys):=fun c ys h=>by
 obtain⟨kvs,hs,_⟩:=x.pk.st;obtain⟨kt,ht,_⟩:=x.tv;obtain⟨kn,hn,_⟩:=x.nv;obtain⟨ke,he,_⟩:=x.ev;refine kp c _ (fun e=>?_) (fun e=>?_) (fun e=>?_) (fun e=>?_) (fun e=>?_) (fun e=>?_) h
 · rw[e,hs] at h;cases h
 · obtain⟨ws,h1,_⟩:=x.rw c e;rw[h1] at h;cases h
 · rw[e,ht] at h;cases h
 · rw[e,hn] at h;cases h
 · rw[e,x.sv] at h;cases h
 · rw[e,he] at h;cases h
end
section
variable {P:Program} {w:World} {K:Fg} {mg:SOV} {base:Heap}
abbrev sBd:Stmt:=top 23
inductive uN (P:Program) (w:World) (K:Fg) (vs:List V) (H:Hp) (Q:VK):Prop
  | mk (A:Adr) (n:Nat) (m:Str→Option V) (ns:List Int) (k:Int) (B:Nat) (skv:NKV) (z:Str) (b:Bool) (p:Nat) (r:Addr) (nx fn fu:Int) (g0_:vs=[.ref A.s,.str z,.bl b]) (g1_:SI P w K H A n m ns k B skv) (g2_:B<900000) (g3_:m "part"=some (.int ((p:Nat):Int))) (g4_:A.rs[p]?=some r) (g5_:m "next"=some (.int nx)) (g6_:m "function"=some (.int fn)) (g7_:m "funs"=some (.int fu)) (g8_:∀ v H',ac A H H'→SI P w K H' A n (aJ m "next" (.int (nx+1))) ns k (B+1) skv→TD K H' v (.tuple [.str z,.int nx,.bool b,.int fu])→Q v H'):uN P w K vs H Q
def xU (P:Program) (w:World) (K:Fg):Sp:=fun vs H Q _=>uN P w K vs H Q
theorem yz:aB ["_law_state","_law_name_here","_law_is_var","_law_one"] ["_law_state","_law_name_here","_law_is_var"] (a7 sBd):=fsM
theorem zI (D:Def K mg "_law_bind" sBd) (T:Blt mg) (aU:Fn P w K mg base "_law_tell" 1 ["_law_state","_law_at","_law_thing"] (vn K)) (ah:Fn P w K mg base "_law_lay" 1 ["_law_state","_law_words"] (rN K)):Fn P w K mg base "_law_bind" 2 ["_law_state","_law_name_here","_law_is_var"] (xU P w K):=by
 refine D.fn yz (fun vs H Q E h=>?_) (fun _ _ _ _ _ _ us hl=>by obtain⟨a,b,c,rfl⟩:=fO hl;rfl) (fun f cdv Ar outer s' H vs Q E hr h=>?_)
 · obtain⟨A,n,m,ns,k,B,skv,z,b,p,r,nx,fn,fu,rfl,_⟩:=h;rfl
 · obtain⟨A,n,m,ns,k,B,skv,z,b,p,r,nx,fn,fu,rfl,x,hB,hp,hr',hnx,hfn,hfu,q⟩:=h;have nd:=yz.nd;have hu:=bX hr;have hrm:r∈A.rs:=mGE hr';refine⟨_,(pE (pN (i:=3) nd rfl (Or.inl rfl) (pM hu (pv 0) pD (fun _ _=>rfl)))
 (pE (bg hu (pv 0) pD (aC bI (pv 3) pH) rfl)
 (pE (am (aa aU (hr.mono (by decide)) rfl (pA (pv 0) (pA (aa ah (hr.mono (by decide)) rfl (pA (pv 0) (pA (ag (pA (pv 1) pC)) pC))) (pA (au (pA pD (pA (pM hu (pv 0) pD (fun _ _=>rfl)) (pA (pv 3) pC)))) pC)))))
 (pI (az (au (pA (pv 1) (pA (pv 3) (pA (pv 2) (pA (pM hu (pv 0) pD (fun _ _=>rfl)) pC)))))))))),?_⟩
   refine⟨_,rfl,A.s,_,rfl,x.pk.st.get hnx,?_⟩;obtain⟨H1,dp,mo,st1⟩:=x.pk.st.put hnx (.int (nx+1)) x.pk.hn;refine⟨_,rfl,_,_,rfl,rfl,_,rfl,A.s,H1,rfl,dp,?_⟩;have nk:∀ {y:Str},y≠"next"→aJ m "next" (.int (nx+1)) y=m y:=fun {y} hy=>aj m _ hy;have pk1:Pk K H1 A.s n (aJ m "next" (.int (nx+1))) A.a ns k:=⟨st1,x.pk.hn,by rw[nk (by decide +kernel)];exact x.pk.sc,x.pk.ne,SqL.mo x.pk.sq mo x.pk.ne,x.pk.len,by rw[nk (by decide +kernel)];exact x.pk.hk,x.pk.k0⟩;have x1:=x.put mo pk1 (nk (by decide +kernel)) (nk (by decide +kernel)) (nk (by decide +kernel)) (nk (by decide +kernel)) (nk (by decide +kernel));refine⟨_,rfl,_,rfl,_,rfl,eW,fun L hL=>?_⟩;have k2:=smu (o:=HO.lst [V.str z]) hL;have hL2:(upd H1 L (.lst [V.str z])) L=some (.lst ([z].map V.str)):=pG;have x2:=x1.same k2;obtain⟨ws,hw,hwl⟩:=x1.rw r hrm;have Lr:L≠r:=fun e=>by rw[e,hw] at hL;cases hL
   generalize upd H1 L (.lst [V.str z])=H2 at k2 hL2 x2 ⊢;have hw2:=k2 _ _ hw;refine⟨A.s,L,A.ro,r,n,_,p,A.rs,ws,[z],rfl,x2.pk.st,x2.ro,by rw[nk (by decide +kernel)];exact hp,x2.rv,hr',hw2,hL2,Lr,by simp;exact AE,?_⟩;have x3:SI P w K (upd H2 r (.lst ((ws++[z]).map V.str))) A n (aJ m "next" (.int (nx+1))) ns k (B+1) skv:=(x2.more (Nat.le_succ B)).laid hrm (by simp;assumption);have kp3:ac A H (upd H2 r (.lst ((ws++[z]).map V.str))):=(ac.mo mo).trans ((ac.of k2).trans (ac.laid hrm));have hB3:∃ kv,(upd H2 r (.lst ((ws++[z]).map V.str))) A.th=some (.dT kv)∧kv.length≤B:=by
    obtain⟨kv,h1,h2⟩:=x2.tv;exact⟨kv,by rw[a9 fun e=>by rw[e,hw2] at h1;cases h1];exact h1,h2⟩
   have x3':=x2.laid (ws:=ws) hrm hwl;generalize upd H2 r (.lst ((ws++[z]).map V.str))=H3 at x3 kp3 hB3 ⊢;refine⟨_,rfl,A.s,_,rfl,x3.pk.st.get (by rw[nk (by decide +kernel)];exact hfn),_,rfl,ee,fun t ht=>?_⟩;have k4:=smu (o:=HO.tup [V.str "local",V.int fn,V.int nx]) ht;have x4:=x3.same k4;obtain⟨kv,hkv,hkl⟩:=hB3;have hkv4:=k4 _ _ hkv;generalize upd H3 t (.tup [V.str "local",V.int fn,V.int nx])=H4 at k4 x4 hkv4 ⊢;refine⟨A.s,A.th,n,_,_,_,_,kv,rfl,x4.pk.st,x4.th,by rw[nk (by decide +kernel)];exact hp,hkv4,c_x,fun H5 kv5 sm5 h5 hl5=>?_⟩;have x5:SI P w K H5 A n (aJ m "next" (.int (nx+1))) ns k (B+1) skv:={ x4.told sm5 h5 (by lia) with
     rw:=fun r' hr'=>by
       obtain⟨ws',h1,h2⟩:=x4.rw r' hr';exact⟨ws',sm5 _ _ (fun e=>by rw[e,hkv4] at h1;cases h1) h1,h2⟩
     tv:=⟨kv5,h5,by lia⟩
     nv:=by
       obtain⟨kv',h1,h2⟩:=x4.nv;by_cases e:A.no=A.th
       · exact⟨kv5,by rw[e];exact h5,by lia⟩
       · exact⟨kv',sm5 _ _ e h1,h2⟩
     sl:=x4.sl
     ev:=by
       obtain⟨kv',h1,h2,h3⟩:=x4.ev;exact⟨kv',sm5 _ _ (fun e=>by rw[e,hkv4] at h1;cases h1) h1,h2.keep (ac.tk x4 (ac.told sm5)),h3⟩ }
   have kp5:ac A H H5:=kp3.trans ((ac.of k4).trans (ac.told sm5));refine⟨_,rfl,_,rfl,_,rfl,_,rfl,A.s,_,rfl,x5.pk.st.get (by rw[nk (by decide +kernel)];exact hfu),Bf,fun u hu'=>?_⟩;have k6:=smu (o:=HO.tup [V.str z,V.int nx,V.bl b,V.int fu]) hu';exact q _ _ (kp5.trans (ac.of k6)) (x5.same k6) (.tup (SqT.of pG) (.cons (.str _) (.cons (.int _) (.cons (.bl _) (.cons (.int _) .nil)))))
end
section
variable {P:Program} {w:World} {K:Fg} {H H':Hp} {A:Adr} {n:Nat} {m:Str→Option V} {ns:List Int} {k:Int} {B:Nat} {skv:NKV}
theorem SI.pick (x:SI P w K H A n m ns k B skv) (mo:Mo H A.s H') (st:StV H' A.s n (aJ m "k" (.int (k+1)))):SI P w K H' A n (aJ m "k" (.int (k+1))) ns (k+1) B skv :=
 x.put mo (x.pk.next mo st) (aj m _) (aj m _) (aj m _) (aj m _) (aj m _)
end
section
variable {P:Program} {w:World} {K:Fg} {mg:SOV} {base:Heap}
abbrev sNb:Stmt:=top 25
inductive uw (P:Program) (w:World) (K:Fg) (vs:List V) (H:Hp) (Q:VK):Prop
  | mk (A:Adr) (n:Nat) (m:Str→Option V) (ns:List Int) (k:Int) (B:Nat) (skv:NKV) (p:Nat) (r:Addr) (g0_:vs=[.ref A.s]) (g1_:SI P w K H A n m ns k B skv) (g2_:B<900000) (g3_:k<900000) (g4_:m "part"=some (.int ((p:Nat):Int))) (g5_:A.rs[p]?=some r) (g6_:∀ v i H',-100000≤i→i≤100000→ac A H H'→SI P w K H' A n (aJ m "k" (.int (k+3))) ns (k+3) (B+1) skv→TD K H' v (.tuple [.str "number",.int i])→Q v H'):uw P w K vs H Q
def xK (P:Program) (w:World) (K:Fg):Sp:=fun vs H Q _=>uw P w K vs H Q
theorem yg:aB ["_law_state","_law_number_here"] ["_law_state"] (a7 sNb):=fsM
theorem nQ {i:Int} (h1:-100000≤i) (h2:i≤100000):i.natAbs.log2<1920:=by
 by_cases h0:i.natAbs=0
 · rw[h0];decide
 · exact (Nat.log2_lt h0).mpr (Nat.lt_of_le_of_lt (show i.natAbs≤100000 by lia) (by decide +kernel))
theorem zh (D:Def K mg "_law_number" sNb) (T:Blt mg) (ab:Fn P w K mg base "_law_pick" 2 ["_law_state","_law_many"] (iD K)) (ah:Fn P w K mg base "_law_lay" 1 ["_law_state","_law_words"] (rN K)):Fn P w K mg base "_law_number" 3 ["_law_state"] (xK P w K):=by
 refine D.fn yg (fun vs H Q E h=>?_) (fun _ _ _ _ _ _ us hl=>by obtain⟨a,rfl⟩:=eK hl;rfl) (fun f cdv Ar outer s' H vs Q E hr h=>?_)
 · obtain⟨A,n,m,ns,k,B,skv,p,r,rfl,_⟩:=h;rfl
 · obtain⟨A,n,m,ns,k,B,skv,p,r,rfl,x,hB,hk,hp,hr',q⟩:=h;have nd:=yg.nd;have hrm:r∈A.rs:=mGE hr';refine⟨_,(pE (pN (i:=1) nd rfl (Or.inl rfl) (@aq _ _ _ _ _ _ _ aH (ag (pA pH (pA pH (pA (iU fY pH) (pA pH (pA (iU fY pH) (pA (aC ck pH (aa ab (hr.mono (by decide)) rfl (pA (pv 0) (pA pH pC)))) (pA (aC ck (aa ab (hr.mono (by decide)) rfl (pA (pv 0) (pA pH pC))) pH) pC)))))))) (aa ab (hr.mono (by decide)) rfl (pA (pv 0) (pA pH pC))) (fun _ _=>rfl)))
 (pE (am (aa ah (hr.mono (by decide)) rfl (pA (pv 0) (pA (ag (pA (B2 T.str (pA (pv 1) pC)) pC)) pC))))
 (pI (az (au (pA pD (pA (pv 1) pC))))))),?_⟩
   dsimp only[bJ,bN,bM];refine a0 fun BU wD=>?_;refine⟨_,rfl,_,rfl,_,rfl,A.s,A.a,n,m,ns,k,15,rfl,x.pk.st,x.pk.hn,x.pk.sc,x.pk.ne,x.pk.sq,x.pk.len,x.pk.hk,x.pk.k0,b_k,by decide,fun r1 H1 r10 r11 mo1 st1=>?_⟩;have x1:=x.pick mo1 st1;refine⟨_,_,rfl,rfl,_,rfl,A.s,A.a,n,_,ns,k+1,65536,rfl,x1.pk.st,x1.pk.hn,x1.pk.sc,x1.pk.ne,x1.pk.sq,x1.pk.len,x1.pk.hk,x1.pk.k0,AM 1,by decide,fun r2 H2 r20 r21 mo2 st2=>?_⟩;have x2:=x1.pick mo2 st2;refine⟨_,_,rfl,rfl,B4,fun L hL=>?_⟩;have k3:=smu (o:=HO.lst [V.int 0,V.int 1,V.int (-1),V.int 32767,V.int (-32768),V.int (7-r1),V.int (r2-32768)]) hL;have hL3:(upd H2 L (.lst [V.int 0,V.int 1,V.int (-1),V.int 32767,V.int (-32768),V.int (7-r1),V.int (r2-32768)])) L=some (.lst [V.int 0,V.int 1,V.int (-1),V.int 32767,V.int (-32768),V.int (7-r1),V.int (r2-32768)]):=pG;have x3:=x2.same k3;have Ls:=x2.pk.st.ne hL;have g3:upd H2 L (.lst [V.int 0,V.int 1,(fun i=>V.int (-i)) 1,V.int 32767,(fun i=>V.int (-i)) 32768,V.int (7-r1),V.int (r2-32768)])=upd H2 L (.lst [V.int 0,V.int 1,V.int (-1),V.int 32767,V.int (-32768),V.int (7-r1),V.int (r2-32768)]):=rfl;refine⟨_,rfl,A.s,A.a,n,_,ns,k+1+1,7,rfl,x3.pk.st,x3.pk.hn,x3.pk.sc,x3.pk.ne,x3.pk.sq,x3.pk.len,x3.pk.hk,x3.pk.k0,by lia,by decide,fun r4 H4 r40 r41 mo4 st4=>?_⟩;have x4:=x3.pick mo4 st4;have kp4:ac A H H4:=(ac.mo mo1).trans ((ac.mo mo2).trans ((ac.of k3).trans (ac.mo mo4)));have hL4:H4 L=some (.lst [V.int 0,V.int 1,V.int (-1),V.int 32767,V.int (-32768),V.int (7-r1),V.int (r2-32768)]):=by rw[mo4 L Ls];exact hL3
   obtain⟨j,rfl⟩:=Int.eq_ofNat_of_zero_le r40;obtain⟨i,hi,i0,i1⟩:∃ i:Int,([V.int 0,V.int 1,V.int (-1),V.int 32767,V.int (-32768),V.int (7-r1),V.int (r2-32768)]:List V)[j]?=some (.int i)∧-100000≤i∧i≤100000:=by
    have hj:j<7:=wO
    rcases (show j=0∨j=1∨j=2∨j=3∨j=4∨j=5∨j=6 by exact wN) with rfl | rfl | rfl | rfl | rfl | rfl | rfl
    · exact⟨0,rfl,by decide,by decide⟩
    · exact⟨1,rfl,by decide,by decide⟩
    · exact⟨-1,rfl,by decide,by decide⟩
    · exact⟨32767,rfl,by decide,by decide⟩
    · exact⟨-32768,rfl,by decide,by decide⟩
    · exact⟨7-r1,rfl,by lia,by lia⟩
    · exact⟨r2-32768,rfl,by lia,by lia⟩
   refine⟨L,_,_,.int i,rfl,rfl,SqL.of hL4,pJ hi,?_⟩;refine wD _ _ (a0 fun Ef Cj=>?_);rw[bW,bW,show k+1+1+1=k+3 by lia] at x4;refine⟨_,rfl,_,rfl,_,rfl,nQ i0 i1,eW,fun M hM=>?_⟩;have k5:=smu (o:=HO.lst [V.str (toString i)]) hM;have hM5:(upd H4 M (.lst [V.str (toString i)])) M=some (.lst ([(toString i:Str)].map V.str)):=pG;have x5:=x4.same k5;obtain⟨ws,hw,hwl⟩:=x4.rw r hrm;have Mr:M≠r:=fun e=>by rw[e,hw] at hM;cases hM
   have hw5:=k5 _ _ hw;generalize upd H4 M (.lst [V.str (toString i)])=H5 at k5 hM5 x5 hw5 ⊢;refine⟨A.s,M,A.ro,r,n,_,p,A.rs,ws,[(toString i:Str)],rfl,x5.pk.st,x5.ro,by rw[aj _ _ (by decide +kernel)];exact hp,x5.rv,hr',hw5,hM5,Mr,by simp;exact AE,?_⟩;refine Cj _ _ ?_;have x6:=(x5.more (Nat.le_succ B)).laid (ws:=ws++[(toString i:Str)]) hrm (by simp;assumption);have kp6:ac A H (upd H5 r (.lst ((ws++[(toString i:Str)]).map V.str))):=kp4.trans ((ac.of k5).trans (ac.laid hrm));generalize upd H5 r (.lst ((ws++[(toString i:Str)]).map V.str))=H6 at x6 kp6 ⊢;refine⟨_,rfl,gu,fun u hu=>?_⟩;have k7:=smu (o:=HO.tup [V.str "number",V.int i]) hu;exact q _ i _ i0 i1 (kp6.trans (ac.of k7)) (x6.same k7) (.tup (SqT.of pG) (.cons (.str _) (.cons (.int _) .nil)))
end
end K12
namespace P10
open PySem L2
end P10
namespace L2
open PySem PySem.Spec PyProof.Rows
section
variable {X:Cx}
def BB (K:Fg):R2:=fun x y H Q=>∃ p q xs,x=.ref p∧y=.ref q∧SqL K H p xs∧SqL K H q []∧Q (.bl xs.isEmpty) H
theorem jw (hu:X.A.units+1<cLine):OpR X (compareOp .Eq) (BB X.K):=by
 intro pins s σ H x y v u Q I rx ry h;obtain⟨p,q,xs,rfl,rfl,hp,hq,k⟩:=h;cases rx;cases ry;obtain⟨its,r1,l1,z1⟩:=I.list hp;obtain⟨its2,r2,l2,z2⟩:=I.list hq;have e1:=r1.length;have e2:its2=[]:=r2.nil_iff.mpr rfl;subst e2;by_cases hl:xs=[]
 · subst hl;have e3:its=[]:=r1.nil_iff.mpr rfl;subst e3;refine SeqAt.eq_listAt (e:=fun _=>true) l1.isList l2.isList rfl (by lia) (fun j h1 h2=>absurd h2 (by simp)) ?_;exact⟨.bl true,H,I,rfl,k⟩
 · have hne:its≠[]:=fun z=>hl (r1.nil_iff.mp z);refine SeqAt.eq_list_lengthsAt l1.isList l2.isList (by simpa using hne) (by lia) ?_;have:xs.isEmpty=false:=by cases xs with | nil=>exact absurd rfl hl | cons _ _=>rfl
   rw[this] at k;exact⟨.bl false,H,I,rfl,k⟩
def yJ (K:Fg):R2:=fun x y H Q=>∃ p q xs,x=.ref p∧y=.ref q∧SqL K H p xs∧SqL K H q []∧Q (.bl (!xs.isEmpty)) H
theorem dX (hu:X.A.units+1<cLine):OpR X (compareOp .NotEq) (yJ X.K):=by
 intro pins s σ H x y v u Q I rx ry h;obtain⟨p,q,xs,rfl,rfl,hp,hq,k⟩:=h;cases rx;cases ry;obtain⟨its,r1,l1,z1⟩:=I.list hp;obtain⟨its2,r2,l2,z2⟩:=I.list hq;have e1:=r1.length;have e2:its2=[]:=r2.nil_iff.mpr rfl;subst e2;by_cases hl:xs=[]
 · subst hl;have e3:its=[]:=r1.nil_iff.mpr rfl;subst e3;exact SeqAt.RcNeAt.lists (e:=fun _=>true) l1.isList l2.isList rfl (by lia) (fun j h1 h2=>absurd h2 (by simp)) X.prog X.w X.xe _ ⟨.bl false,H,I,rfl,k⟩
 · have hne:its≠[]:=fun z=>hl (r1.nil_iff.mp z);have:xs.isEmpty=false:=by cases xs with | nil=>exact absurd rfl hl | cons _ _=>rfl
   rw[this] at k;exact SeqAt.RcNeAt.lists_lengths l1.isList l2.isList (by simpa using hne) (by lia) X.prog X.w X.xe _ ⟨.bl true,H,I,rfl,k⟩
end
end L2
namespace K12
open PySem L2 P10
def dSe (t:Str×Int×Bool×Int):PyData:=.tuple [.str t.1,.int t.2.1,.bool t.2.2.1,.int t.2.2.2]
section
variable {P:Program} {w:World} {K:Fg} {mg:SOV} {base:Heap}
theorem dM {H:Hp} {x:V} {t:Str×Int×Bool×Int} (h:TD K H x (dSe t)):∃ a,x=.ref a∧SqT K H a [.str t.1,.int t.2.1,.bl t.2.2.1,.int t.2.2.2]:=by
 obtain⟨a,xs,rfl,ha,hx⟩:=h.tup_of;cases hx with
 | cons e1 hx=>cases hx with
  | cons e2 hx=>cases hx with
   | cons e3 hx=>cases hx with
    | cons e4 hx =>
     cases hx;cases e1;cases e2;cases e3;cases e4;exact⟨a,rfl,ha⟩
abbrev sSn:Stmt:=top 22
inductive uo (K:Fg) (vs:List V) (H:Hp) (Q:VK):Prop
  | mk (s S:Addr) (n:Nat) (m:Str→Option V) (b:Bool) (fu:Int) (xs:List V) (sv:List (Str×Int×Bool×Int)) (g0_:vs=[.ref s,.ref S,.bl b]) (g1_:StV H s n m) (g2_:m "funs"=some (.int fu)) (g3_:H S=some (.lst xs)) (g4_:TDs K H xs (sv.map dSe)) (g5_:sv.length≤100000) (g6_:∀ (W:Addr) (zs:List V) (ts:List (Str×Int×Bool×Int)) (H':Hp),ak H H'→H W=none→H' W=some (.lst zs)→TDs K H' zs (ts.map dSe)→ts.length≤sv.length→(∀ t∈ts,t∈sv)→Q (.ref W) H'):uo K vs H Q
def xG (K:Fg):Sp:=fun vs H Q _=>uo K vs H Q
theorem y9:aB ["_law_state","_law_seen_here","_law_is_set","_law_found","_law_k","_law_name_here","_law_is_var","_law_funs","_law_hidden"] ["_law_state","_law_seen_here","_law_is_set"] (a7 sSn):=fsM
theorem ei {n i:Nat} {x:V} (h:(L2.bG 0 n)[i]?=some x):x=.int ((i:Nat):Int):=by
 unfold L2.bG at h;rw[gEM] at h;obtain⟨k,h1,h2⟩:=oMS.mp h;have hi:=(gES.mp h1).1;rw[gEE hi,List.getElem_range] at h1;cases h1;rw[← h2];simp
theorem BF:(["_law_other","_law_name_here"]:List Str).Nodup:=by decide +kernel
theorem z8 (D:Def K mg "_law_seen" sSn) (T:Blt mg):Fn P w K mg base "_law_seen" 1 ["_law_state","_law_seen_here","_law_is_set"] (xG K):=by
 refine D.fn y9 (fun vs H Q E h=>?_) (fun _ _ _ _ _ _ us hl=>by obtain⟨a,b,c,rfl⟩:=fO hl;rfl) (fun f cdv Ar outer s' H vs Q E hr h=>?_)
 · obtain⟨s,S,n,m,b,fu,xs,sv,rfl,_⟩:=h;rfl
 · obtain⟨s,S,n,m,b,fu,xs,sv,rfl,st,hfu,hS,hxs,hsl,q⟩:=h;have nd:=y9.nd;have hu:=bX hr;have hxl:=hxs.length;rw[lMp] at hxl;have hz0:(1000000:Nat)<sizeLine:=by decide
   refine⟨_,(pE (pN (i:=3) nd rfl (Or.inl rfl) (ag pC))
 (pE (bp PassesOwn.never rfl (bz rfl T.range (pA (bc T.len (pA (pv 1) pC)) pC)) (ae (i:=4) nd rfl (Or.inl rfl))
 (pE (jp (au (pA (aq aF (aq aH (pv 1) (pv 4) (fun _ _=>rfl)) pH (fun _ _=>rfl)) (pA (aq aF (aq aH (pv 1) (pv 4) (fun _ _=>rfl)) pH (fun _ _=>rfl)) (pA (aq aF (aq aH (pv 1) (pv 4) (fun _ _=>rfl)) pH (fun _ _=>rfl)) pC)))) (dh rfl (aP (ae (i:=5) nd rfl (Or.inr rfl)) (aP (ae (i:=6) nd rfl (Or.inl rfl)) (aP (ae (i:=7) nd rfl (Or.inl rfl)) cE)))))
 (pE (eR (i0:=8) (own:=["_law_other"]) (outs:=[(5,"_law_name_here")]) (tc:=gl (tOp rEq (tOp (nG K) (cq 0) (tC (.int 0))) (cq 1))) rfl (aI.of (a7 sSn) ["_law_state","_law_seen_here","_law_is_set","_law_found","_law_k","_law_name_here","_law_is_var","_law_funs","_law_hidden"]) (bu (cs gE (pv 1) (bH (aC bI (pv 4) pH)) cQ)) (fun _ _ _ _=>⟨(ae (i:=0) BF rfl (Or.inl rfl)),(cx (pO aV (aq aF (pv 0) pH (fun _ _=>rfl)) (pv 1) (pP _))),(pv 0)⟩) nd rfl rfl)
 (pI (aN (PW.pt (b8 (pO (jw hu) (pv 8) (ag pC) (pP _)) (b8 (PW.pt (gn (gZ (cV (pv 6))) (dS (pO aV (pv 7) (pM hu (pv 0) pD (fun _ _=>rfl)) (pP _))))) (bn (PW.pt (gn (cV (pv 6)) (dS (gZ (cV (pv 2)))))))))) (pI (am (aX (pv 3) (pA (aq aH (pv 1) (pv 4) (fun _ _=>rfl)) pC)))) aE)))))
 (pI (az (pv 3))))),?_⟩
   dsimp only[bJ,bN,bM];refine⟨ef,fun W hW=>?_⟩;have k1:=smu (o:=HO.lst []) hW;have hW1:(upd H W (.lst [])) W=some (.lst []):=pG;generalize upd H W (.lst [])=H1 at k1 hW1 ⊢;refine⟨_,rfl,S,xs,rfl,.inl (SqL.of (k1 _ _ hS)),_,rfl,oq,by lia,?_⟩;rw[show ((xs.length:Nat):Int).toNat=xs.length from Int.toNat_natCast _];show aw _ _ _ _ _ _;refine aw.byN (b4 (n:=xs.length)) (fun i σ Hi=>ak H Hi∧(∃ (zs:List V) (ts:List (Str×Int×Bool×Int)),Hi W=some (.lst zs)∧TDs K Hi zs (ts.map dSe)∧ts.length≤i∧∀ t∈ts,t∈sv)∧∃ x4 x5 x6 x7 x8,σ=[some (.ref s),some (.ref S),some (.bl b),some (.ref W),x4,x5,x6,x7,x8])
    ⟨k1,⟨[],[],hW1,.nil,Nat.le_refl _,fun _ z=>absurd z nMN⟩,_,_,_,_,_,rfl⟩ (fun _ _ _ _ _=>trivial) ?_ ?_
   · rintro i x σ Hi N_ B_ hN_ hB_ hx ⟨sm,⟨zs,ts,hWi,hts,htl,hmem⟩,x4,x5,x6,x7,x8,rfl⟩;have hin:i<xs.length:=by have:=(gES.mp hx).1;rw[bm] at this;exact this
     obtain rfl:=ei hx;have hxi:xs[i]?=some xs[i]:=gEE hin;obtain⟨d,hd,htd⟩:=hxs.get hxi;rw[gEM] at hd;obtain⟨t,ht,rfl⟩:=oMS.mp hd;obtain⟨a,ea,ha⟩:=dM htd;have hi:=sm.seqT ha;have hSi:=sm _ _ hS;have c0:∀ {x0 x1 x2 x3:V},atI [x0,x1,x2,x3] 0=some x0:=fun {x0 x1 x2 x3}=>pJ (j:=0) rfl;have c2:∀ {x0 x1 x2 x3:V},atI [x0,x1,x2,x3] 2=some x2:=fun {x0 x1 x2 x3}=>pJ (j:=2) rfl;have c3:∀ {x0 x1 x2 x3:V},atI [x0,x1,x2,x3] 3=some x3:=fun {x0 x1 x2 x3}=>pJ (j:=3) rfl;have ati:atI xs ((i:Nat):Int)=some (.ref a):=pJ (by rw[hxi,ea]);refine⟨_,rfl,_,rfl,S,xs,_,_,rfl,rfl,SqL.of hSi,ati,a,_,0,_,rfl,rfl,hi,c0,_,rfl,_,rfl,S,xs,_,_,rfl,rfl,SqL.of hSi,ati,a,_,2,_,rfl,rfl,hi,c2,_,rfl,_,rfl,S,xs,_,_,rfl,rfl,SqL.of hSi,ati,a,_,3,_,rfl,rfl,hi,c3,ee,fun u hu'=>?_⟩;have k2:=smu (o:=HO.tup [V.str t.1,V.bl t.2.2.1,V.int t.2.2.2]) hu';refine⟨u,_,rfl,SqT.of pG,rfl,_,_,rfl,_,_,rfl,_,_,rfl,rfl,?_⟩;generalize upd Hi u (.tup [V.str t.1,V.bl t.2.2.1,V.int t.2.2.2])=H2 at k2 ⊢;dsimp only;rw[fZ,cz,cj];refine⟨_,rfl,_,rfl,_,_,rfl,rfl,_,rfl,S,xs,rfl,SqL.of (k2 _ _ hSi),fun p hp=>?_⟩;rw[show (((i:Nat):Int)+1)=(((i+1:Nat):Nat):Int) by exact CN,cK];have k3:=smu (o:=HO.lst (xs.drop (i+1))) hp;have hp3:(upd H2 p (.lst (xs.drop (i+1)))) p=some (.lst (xs.drop (i+1))):=pG;generalize upd H2 p (.lst (xs.drop (i+1)))=H3 at k3 hp3 ⊢;refine⟨p,rfl,⟨_,SqL.of hp3⟩,fun L hL=>?_⟩;refine b6.by (aK (xs:=xs.drop (i+1))) (fun j σ Hj=>ak H3 Hj∧(∃ ys,Hj L=some (.lst ys)∧ys.length≤j)∧∃ y,σ=[y,some (.str t.1)]) ⟨smu hL,⟨[],pG,Nat.le_refl _⟩,_,rfl⟩ (fun j σ Hj _ z=>SqL.of (z.1 _ _ hp3)) ?_ ?_
     · rintro j x σ Hj hxj ⟨sj,⟨ys,hLj,hyl⟩,y,rfl⟩;rw[List.getElem?_drop] at hxj;obtain⟨d',hd',htd'⟩:=hxs.get hxj;rw[gEM] at hd';obtain⟨t',ht',rfl⟩:=oMS.mp hd';obtain⟨a',rfl,ha'⟩:=dM htd';have hj:i+1+j<xs.length:=(gES.mp hxj).1;rw[aL];refine⟨_,rfl,a',_,0,_,rfl,rfl,sj.seqT (k3.seqT (k2.seqT (sm.seqT ha'))),c0,_,rfl,rfl,_,rfl,?_⟩;split
       · exact⟨_,rfl,ys,hLj,by lia,aG sj hL,⟨_,pG,by simp;assumption⟩,_,rfl⟩
       · exact⟨sj,⟨ys,hLj,c_a⟩,_,rfl⟩
     · rintro σ Hj ⟨sj,⟨ys,hLj,_⟩,y,rfl⟩;have S4:ak Hi Hj:=k2.trans (k3.trans sj);refine⟨_,rfl,ef,fun e0 he=>?_⟩;have k5:=smu (o:=HO.lst []) he;refine⟨L,e0,ys,rfl,rfl,SqL.of (k5 _ _ hLj),SqL.of pG,_,rfl,?_⟩;have S5:=S4.trans k5;generalize upd Hj e0 (.lst [])=H5 at k5 S5 ⊢;have hW5:=S5 _ _ hWi;have st5:=st.same (sm.trans S5);have fin0:∀ σ8:St,(∃ x4 x5 x6 x7 x8,σ8=[some (.ref s),some (.ref S),some (.bl b),some (.ref W),x4,x5,x6,x7,x8])→ak H H5∧(∃ (zs:List V) (ts:List (Str×Int×Bool×Int)),H5 W=some (.lst zs)∧TDs K H5 zs (ts.map dSe)∧ts.length≤i+1∧∀ t∈ts,t∈sv)∧∃ x4 x5 x6 x7 x8,σ8=[some (.ref s),some (.ref S),some (.bl b),some (.ref W),x4,x5,x6,x7,x8] :=
        fun σ8 h8=>⟨sm.trans S5,⟨zs,ts,hW5,hts.same S5,c_a,hmem⟩,h8⟩
       have hzl:=hts.length;rw[lMp] at hzl;have fin1:ak H (upd H5 W (.lst (zs++[V.ref a])))∧(∃ (zs':List V) (ts:List (Str×Int×Bool×Int)),(upd H5 W (.lst (zs++[V.ref a]))) W=some (.lst zs')∧TDs K (upd H5 W (.lst (zs++[V.ref a]))) zs' (ts.map dSe)∧ts.length≤i+1∧∀ t∈ts,t∈sv):=by
        refine⟨aG (sm.trans S5) hW,_,ts++[t],pG,?_,by simp;assumption,fun x hx=>(mAp.mp hx).elim (hmem x) fun z=>by rw[mSg.mp z];exact mGE ht⟩;rw[List.map_append];rw[ea] at htd;exact ((hts.same S5).snoc (htd.same (sm.trans S5))).tk (bC (.inr ⟨_,hW5⟩))
       have yes:∀ σ8:St,σ8=[some (.ref s),some (.ref S),some (.bl b),some (.ref W),some (.int ((i:Nat):Int)),some (.str t.1),some (.bl t.2.2.1),some (.int t.2.2.2),some (.ref L)]→oR (tBM K "list" jo (cq 3) (cP (tOp (pV K) (cq 1) (cq 4)) iC)) {nx:=N_,rt:=Q,bk:=B_,ct:=N_} σ8 H5:=by
        rintro σ8 rfl;exact⟨_,rfl,.inl ⟨rfl,_,SqL.of hW5⟩,_,rfl,_,rfl,S,xs,_,_,rfl,rfl,SqL.of (S5 _ _ hSi),ati,W,zs,_,rfl,rfl,hW5,by lia,hN_ _ _ ⟨fin1.1,fin1.2,_,_,_,_,_,rfl⟩⟩
       cases ys.isEmpty with
       | false=>exact aZ (aZ (hN_ _ _ (fin0 _ ⟨_,_,_,_,_,rfl⟩)))
       | true =>
        refine bx ⟨_,rfl,_,rfl,?_⟩;cases hv:t.2.2.1 with
        | false =>
         refine bx (bx ⟨_,rfl,_,rfl,aZ ⟨_,rfl,_,rfl,?_⟩⟩);cases b with
         | false=>exact bx (yes _ (by rw[hv];rfl))
         | true=>exact aZ (hN_ _ _ (fin0 _ ⟨_,_,_,_,_,rfl⟩))
        | true =>
         refine aZ ⟨_,rfl,_,rfl,s,_,rfl,st5.get hfu,rfl,_,rfl,?_⟩;split
         · exact⟨_,rfl,_,rfl,bx (bx (yes _ (by rw[hv];rfl)))⟩
         · exact aZ (hN_ _ _ (fin0 _ ⟨_,_,_,_,_,rfl⟩))
   · rintro σ Hi ⟨sm,⟨zs,ts,hWi,hts,htl,hmem⟩,x4,x5,x6,x7,x8,rfl⟩;rw[bm,hxl] at htl;exact⟨_,rfl,q W zs ts Hi sm hW hWi hts htl hmem⟩
end
structure Frm where
  part:Int
  head:Str
  sort:Str
  name:Str
  inner:Addr
  inn:List Str
  number:Int
structure iz (H:Hp) (f:Addr) (fm:Frm):Prop where
  st:∃ m:Str→Option V,StV H f 20 m∧m "part"=some (.int fm.part)∧m "head"=some (.str fm.head)∧m "sort"=some (.str fm.sort)∧m "name"=some (.str fm.name)∧m "inner"=some (.ref fm.inner)∧m "number"=some (.int fm.number)
  inn:H fm.inner=some (.lst (fm.inn.map V.str))
theorem iz.same {H H':Hp} {f:Addr} {fm:Frm} (h:iz H f fm) (e:ak H H'):iz H' f fm:=by
 obtain⟨⟨m,st,r⟩,i⟩:=h;exact⟨⟨m,st.same e,r⟩,e _ _ i⟩
abbrev FL:=List (Addr×Frm)
def FsV (H:Hp) (fl:FL):Prop:=∀ x∈fl,iz H x.1 x.2
theorem FsV.same {H H':Hp} {fl:FL} (h:FsV H fl) (e:ak H H'):FsV H' fl:=fun x hx=>(h x hx).same e
section
variable {P:Program} {w:World} {K:Fg} {mg:SOV} {base:Heap}
abbrev sMt:Stmt:=top 18
def fits (so nm:Str) (x:Addr×Frm):Bool:=decide (x.2.sort=so)&&decide (x.2.name=nm)
def own (pt:Int) (x:Addr×Frm):Bool:=decide (x.2.part=pt)
def mtL (pt:Int) (so nm:Str) (fl:FL):FL:=(fl.filter (fits so nm)).filter (own pt)++fl.filter (fits so nm)
inductive uy (K:Fg) (vs:List V) (H:Hp) (Q:VK):Prop
  | mk (s fo:Addr) (n:Nat) (m:Str→Option V) (pt:Int) (so nm:Str) (fl:FL) (g0_:vs=[.ref s,.int pt,.str so,.str nm]) (g1_:StV H s n m) (g2_:m "forms"=some (.ref fo)) (g3_:H fo=some (.lst (fl.map fun x=>V.ref x.1))) (g4_:FsV H fl) (g5_:fl.length≤1000) (g6_:(∃ x∈fl,fits so nm x=true)) (g7_:∀ x H',x∈fl→fits so nm x=true→(mtL pt so nm fl).head?=some x→ak H H'→Q (.ref x.1) H'):uy K vs H Q
def xL (K:Fg):Sp:=fun vs H Q _=>uy K vs H Q
theorem yi:aB ["_law_state","_law_part","_law_sort","_law_name_here","_law_some_here","_law_own"] ["_law_state","_law_part","_law_sort","_law_name_here"] (a7 sMt):=fsM
theorem BK:(["_law_form_here","_law_sort","_law_name_here"]:List Str).Nodup:=by decide +kernel
theorem BL:(["_law_form_here","_law_part"]:List Str).Nodup:=by decide +kernel
theorem dw {fl:FL} {i:Nat} {x:Addr×Frm} (p:Addr×Frm→Bool) (h:fl[i]?=some x):(fl.take (i+1)).filter p=(fl.take i).filter p++(if p x then [x] else []):=by
 rw[tAO,h,List.filter_append];congr 1;show List.filter p [x]=_;rw[List.filter_cons];cases p x <;> rfl
theorem zm (D:Def K mg "_law_meant" sMt):Fn P w K mg base "_law_meant" 1 ["_law_state","_law_part","_law_sort","_law_name_here"] (xL K):=by
 refine D.fn yi (fun vs H Q E h=>?_) (fun _ _ _ _ _ _ us hl=>by obtain⟨a,b,c,d,rfl⟩:∃ a b c d,us=[a,b,c,d]:=(by
     cases us with
     | nil=>cases hl
     | cons a r=>obtain⟨b,c,d,rfl⟩:=fO (Nat.succ.inj hl);exact⟨a,b,c,d,rfl⟩);rfl) (fun f cdv Ar outer s' H vs Q E hr h=>?_)
 · obtain⟨s,fo,n,m,pt,so,nm,fl,rfl,_⟩:=h;rfl
 · obtain⟨s,fo,n,m,pt,so,nm,fl,rfl,st,hfo,hF,hfs,hfl,hex,q⟩:=h;have nd:=yi.nd;have hu:=bX hr;have hz0:(1000000:Nat)<sizeLine:=by decide
   refine⟨_,(pE (eR (i0:=4) (own:=["_law_form_here"]) (outs:=[(2,"_law_sort"),(3,"_law_name_here")]) rfl (aI.of (a7 sMt) ["_law_state","_law_part","_law_sort","_law_name_here","_law_some_here","_law_own"]) (bu (pM hu (pv 0) pD (fun _ _=>rfl))) (fun _ _ _ _=>⟨(ae (i:=0) BK rfl (Or.inl rfl)),(cx (PW.pt (b8 (pO aV (pM hu (pv 0) pD (fun _ _=>rfl)) (pv 1) (pP _)) (bn (pO aV (pM hu (pv 0) pD (fun _ _=>rfl)) (pv 2) (pP _)))))),(pv 0)⟩) nd rfl rfl)
 (pE (eR (i0:=5) (own:=["_law_form_here"]) (outs:=[(1,"_law_part")]) rfl (aI.of (a7 sMt) ["_law_state","_law_part","_law_sort","_law_name_here","_law_some_here","_law_own"]) (bu (pv 4)) (fun _ _ _ _=>⟨(ae (i:=0) BL rfl (Or.inl rfl)),(cx (pO aV (pM hu (pv 0) pD (fun _ _=>rfl)) (pv 1) (pP _))),(pv 0)⟩) nd rfl rfl)
 (pI (az (aq aH (aC fL (pv 5) (pv 4)) pH (fun _ _=>rfl)))))),?_⟩
   dsimp only[bJ,bN,bM];rw[fZ,cz,cj];refine⟨_,rfl,s,_,rfl,st.get hfo,fo,rfl,⟨_,SqL.of hF⟩,fun L hL=>?_⟩;refine b6.by (aK (xs:=fl.map fun x=>V.ref x.1)) (fun j σ Hj=>ak H Hj∧Hj L=some (.lst (((fl.take j).filter (fits so nm)).map fun x=>V.ref x.1))∧∃ y,σ=[y,some (.str so),some (.str nm)]) ⟨smu hL,pG,_,rfl⟩ (fun j σ Hj _ z=>SqL.of (z.1 _ _ hF)) ?_ ?_
   · rintro j x σ Hj hxj ⟨sj,hLj,y,rfl⟩;rw[gEM] at hxj;obtain⟨fx,hfx,rfl⟩:=oMS.mp hxj;obtain⟨⟨mf,stf,f1,f2,f3,f4,f5,f6⟩,_⟩:=(hfs fx (mGE hfx)).same sj;have hstep:=dw (fits so nm) hfx;have hlen:((fl.take j).filter (fits so nm)).length≤1000:=Nat.le_trans (List.length_filter_le _ _) (by rw[lTk];exact tE);rw[aL];refine⟨_,rfl,fx.1,_,rfl,stf.get f3,_,rfl,rfl,_,rfl,?_⟩;have no:fits so nm fx=false→(ak H Hj∧Hj L=some (.lst (((fl.take (j+1)).filter (fits so nm)).map fun x=>V.ref x.1))∧∃ y,([some (.ref fx.1),some (.str so),some (.str nm)]:St)=[y,some (.str so),some (.str nm)]):=fun hf =>
      ⟨sj,by rw[hstep,hf];simpa using hLj,_,rfl⟩
     by_cases h1:fx.2.sort=so
     · refine pL (by simp[h1]) ?_;refine⟨_,rfl,fx.1,_,rfl,stf.get f4,_,rfl,rfl,_,rfl,?_⟩;by_cases h2:fx.2.name=nm
       · have hf:fits so nm fx=true:=by unfold fits;simp[h1,h2]
         exact pL (by simp[h2]) ⟨_,rfl,_,hLj,by rw[lMp];exact oz,aG sj hL,by rw[pG,hstep,hf];simp,_,rfl⟩
       · exact pK (by simp[h2]) (no (by unfold fits;simp[h2]))
     · exact pK (by simp[h1]) (aZ (no (by unfold fits;simp[h1])))
   · rintro σ Hj ⟨sj,hLj,y,rfl⟩;rw[lMp,List.take_length] at hLj;rw[aL];dsimp only;rw[fZ,cz,cj];have hsub:∀ x∈fl.filter (fits so nm),x∈fl∧fits so nm x=true:=fun x hx=>List.mem_filter.mp hx;have hfl2:(fl.filter (fits so nm)).length≤1000:=Nat.le_trans (List.length_filter_le _ _) hfl;have hne2:fl.filter (fits so nm)≠[]:=by
      obtain⟨x,hx,hf⟩:=hex;exact List.ne_nil_of_mem (List.mem_filter.mpr ⟨hx,hf⟩)
     have hq:∀ x H',x∈fl→fits so nm x=true→((fl.filter (fits so nm)).filter (own pt)++fl.filter (fits so nm)).head?=some x→ak H H'→Q (.ref x.1) H':=q;generalize fl.filter (fits so nm)=sl at hLj hsub hfl2 hne2 hq ⊢;refine⟨_,rfl,L,rfl,⟨_,SqL.of hLj⟩,fun M hM=>?_⟩;refine b6.by (aK (xs:=sl.map fun x=>V.ref x.1)) (fun j σ Hk=>ak Hj Hk∧Hk M=some (.lst (((sl.take j).filter (own pt)).map fun x=>V.ref x.1))∧∃ y,σ=[y,some (.int pt)]) ⟨smu hM,pG,_,rfl⟩ (fun j σ Hk _ z=>SqL.of (z.1 _ _ hLj)) ?_ ?_
     · rintro j x σ Hk hxj ⟨sk,hMk,y,rfl⟩;have hjl:j<sl.length:=by have:=(gES.mp hxj).1;rwa [lMp] at this
       rw[gEM] at hxj;obtain⟨fx,hfx,rfl⟩:=oMS.mp hxj;have hm:=mGE hfx;obtain⟨⟨mf,stf,f1,f2,f3,f4,f5,f6⟩,_⟩:=(hfs fx (hsub fx hm).1).same (sj.trans sk);rw[aL];have hstep:=dw (own pt) hfx;have hlen:((sl.take j).filter (own pt)).length≤1000:=Nat.le_trans (List.length_filter_le _ _) (by rw[lTk];exact tE);refine⟨_,rfl,fx.1,_,rfl,stf.get f1,_,rfl,rfl,_,rfl,?_⟩;by_cases h1:fx.2.part=pt
       · have ho:own pt fx=true:=by unfold own;simp[h1]
         exact pL (by simp[h1]) ⟨_,rfl,_,hMk,by rw[lMp];exact oz,aG sk hM,by rw[pG,hstep,ho];simp,_,rfl⟩
       · have ho:own pt fx=false:=by unfold own;simp[h1]
         exact pK (by simp[h1]) ⟨sk,by rw[hstep,ho];simpa using hMk,_,rfl⟩
     · rintro σ Hk ⟨sk,hMk,y,rfl⟩;rw[lMp,List.take_length] at hMk;have hol:(sl.filter (own pt)).length≤sl.length:=List.length_filter_le _ _;have hos:∀ x∈sl.filter (own pt),x∈sl:=fun x hx=>(List.mem_filter.mp hx).1;generalize hde:sl.filter (own pt)=ol at hMk hol hos;rw[hde] at hq;refine⟨_,rfl,_,rfl,M,L,_,_,rfl,rfl,SqL.of hMk,SqL.of (sk _ _ hLj),by simp;lia,fun F hF'=>?_⟩;have k5:=smu (o:=HO.lst ((ol.map fun x=>V.ref x.1)++sl.map fun x=>V.ref x.1)) hF';obtain⟨x,d7,hxr⟩:∃ x d7,ol++sl=x::d7:=by
        cases h:ol++sl with
        | nil=>exact absurd (List.append_eq_nil_iff.mp h).2 hne2
        | cons x d7=>exact⟨x,d7,rfl⟩
       have hxm:x∈sl:=by
        have:x∈ol++sl:=by rw[hxr];exact mCS
        rcases mAp.mp this with z | z
        · exact hos x z
        · exact z
       refine⟨F,_,0,.ref x.1,rfl,rfl,SqL.of pG,pJ (j:=0) ?_,hq x _ (hsub x hxm).1 (hsub x hxm).2 (by rw[hxr];rfl) (sj.trans (sk.trans k5))⟩;rw[← List.map_append,hxr];rfl
end
def sX:Stmt→List Stmt
  | .For _ _ b _ _=>b
  | _=>[]
def chF (hd:Str) (fn:Int) (x:Addr×Frm):Bool:=(!decide (x.2.head="open"))&&!(decide (x.2.head="function")&&(decide (hd="function")&&decide (fn≤x.2.number)))
def chG (pt:Int) (so:Str) (fl:FL) (c:Bool) (x:Addr×Frm):Bool:=decide (x.2.sort=so)&&((c||decide (so="record"))&&((mtL pt so x.2.name fl).head?.any fun y=>decide (y.2.number=x.2.number)))
def chs (pt fn:Int) (hd so:Str) (fl:FL):FL:=fl.filter fun x=>chG pt so fl (chF hd fn x) x
section
variable {P:Program} {w:World} {K:Fg} {mg:SOV} {base:Heap}
abbrev sCo:Stmt:=top 19
inductive uJ (K:Fg) (vs:List V) (H:Hp) (Q:VK):Prop
  | mk (s fo:Addr) (n:Nat) (m:Str→Option V) (pt fn:Int) (so hd:Str) (fl:FL) (g0_:vs=[.ref s,.str so]) (g1_:StV H s n m) (g2_:m "forms"=some (.ref fo)) (g3_:m "part"=some (.int pt)) (g4_:m "function"=some (.int fn)) (g5_:m "head"=some (.str hd)) (g6_:H fo=some (.lst (fl.map fun x=>V.ref x.1))) (g7_:FsV H fl) (g8_:fl.length≤1000) (g9_:∀ (W:Addr) (H':Hp),ak H H'→H W=none→H' W=some (.lst ((chs pt fn hd so fl).map fun x=>V.ref x.1))→Q (.ref W) H'):uJ K vs H Q
def xS (K:Fg):Sp:=fun vs H Q _=>uJ K vs H Q
theorem yv:aB ["_law_state","_law_sort","_law_found","_law_form_here","_law_free_one"] ["_law_state","_law_sort"] (a7 sCo):=fsM
theorem lM {fl:FL} {i:Nat} {x:Addr×Frm} (p:Addr×Frm→Bool) (h:fl[i]?=some x):((fl.take (i+1)).filter p).map (fun x=>V.ref x.1)=((fl.take i).filter p).map (fun x=>V.ref x.1)++(if p x then [V.ref x.1] else []):=by
 rw[dw p h,List.map_append];cases p x <;> rfl
theorem zE (D:Def K mg "_law_choices" sCo) (l5:Fn P w K mg base "_law_meant" 1 ["_law_state","_law_part","_law_sort","_law_name_here"] (xL K)):Fn P w K mg base "_law_choices" 2 ["_law_state","_law_sort"] (xS K):=by
 refine D.fn yv (fun vs H Q E h=>?_) (fun _ _ _ _ _ _ us hl=>by obtain⟨a,b,rfl⟩:=il hl;rfl) (fun f cdv Ar outer s' H vs Q E hr h=>?_)
 · obtain⟨s,fo,n,m,pt,fn,so,hd,fl,rfl,_⟩:=h;rfl
 · obtain⟨s,fo,n,m,pt,fn,so,hd,fl,rfl,st,hfo,hpt,hfn,hhd,hF,hfs,hfl,q⟩:=h;have nd:=yv.nd;have hu:=bX hr;have hz0:(1000000:Nat)<sizeLine:=by decide
   obtain⟨t2,h2,q2⟩:∃ t,PSs (cJ CX0 P w K mg base ["_law_state","_law_sort","_law_found","_law_form_here","_law_free_one"] "_law_choices" (a7 sCo) f cdv Ar outer s' H E).nox ((sX ((aW sCo).getD 1 (.Pass ⟨0,0,0,0⟩))).drop 2) t ∧
    ∀ (D:eO) (c:Bool) (W:Addr) (fx:Addr×Frm) (Hi:Hp) (zs:List V),ak H Hi→fx∈fl→H W=none→Hi W=some (.lst zs)→zs.length≤1000 →
     (∀ H' σ',ak H H'→H' W=some (.lst (zs++if chG pt so fl c fx then [V.ref fx.1] else []))→(∃ x3 x4,σ'=[some (.ref s),some (.str so),some (.ref W),x3,x4])→D.nx σ' H')→t D [some (.ref s),some (.str so),some (.ref W),some (.ref fx.1),some (.bl c)] Hi:=by
    refine⟨_,(pI (aN (PW.pt (b8 (pO aV (pM hu (pv 3) pD (fun _ _=>rfl)) (pv 1) (pP _)) (bn (PW.pt (gn (cV (pv 4)) (dS (pO aV (pv 1) pD (pP _)))))))) (pI (aN (pO aV (pM hu (aa l5 (hr.mono (by decide)) rfl (pA (pv 0) (pA (pM hu (pv 0) pD (fun _ _=>rfl)) (pA (pv 1) (pA (pM hu (pv 3) pD (fun _ _=>rfl)) pC))))) pD (fun _ _=>rfl)) (pM hu (pv 3) pD (fun _ _=>rfl)) (pP _)) (pI (am (aX (pv 2) (pA (pv 3) pC)))) aE)) aE)),fun D c W fx Hi zs sm hm hW hWi hzl k=>?_⟩;obtain⟨⟨mf,stf,f1,f2,f3,f4,f5,f6⟩,_⟩:=(hfs fx hm).same sm;have sti:=st.same sm;have no:chG pt so fl c fx=false→∀ σ' H',ak Hi H'→(∃ x3 x4,σ'=[some (.ref s),some (.str so),some (.ref W),x3,x4])→D.nx σ' H':=fun hf σ' H' s' hσ=>k H' σ' (sm.trans s') (by rw[hf];simpa using s' _ _ hWi) hσ;refine⟨_,rfl,fx.1,_,rfl,stf.get f3,_,rfl,rfl,_,rfl,?_⟩;by_cases h1:fx.2.sort=so
    · refine pL (by simp[h1]) ?_;refine⟨_,rfl,_,rfl,?_⟩;cases c with
      | true =>
       refine bx (bx ?_);refine⟨_,rfl,_,rfl,s,_,rfl,sti.get hpt,_,rfl,_,rfl,fx.1,_,rfl,stf.get f4,s,fo,n,m,pt,so,fx.2.name,fl,rfl,sti,hfo,sm _ _ hF,hfs.same sm,hfl,⟨fx,hm,by unfold fits;simp[h1]⟩,fun x H' hx hf hmt s'=>?_⟩;obtain⟨⟨mx,stx,_,_,_,_,_,g6⟩,_⟩:=(hfs x hx).same (sm.trans s');refine⟨x.1,_,rfl,stx.get g6,_,rfl,fx.1,_,rfl,(stf.same s').get f6,rfl,_,rfl,?_⟩;have hW':=s' _ _ hWi;by_cases h3:x.2.number=fx.2.number
       · have hy:chG pt so fl true fx=true:=by unfold chG;rw[hmt];simp[h1,h3]
         refine pL (by simp[h3]) ⟨_,rfl,.inl ⟨rfl,_,SqL.of hW'⟩,_,rfl,W,_,_,rfl,rfl,hW',oz,?_⟩;exact k _ _ (aG (sm.trans s') hW) (by rw[hy];exact pG) ⟨_,_,rfl⟩
       · exact pK (by simp[h3]) (no (by unfold chG;rw[hmt];simp[h3]) _ _ s' ⟨_,_,rfl⟩)
      | false =>
       refine aZ ⟨_,rfl,rfl,_,rfl,?_⟩;by_cases h2:so="record"
       · refine pL (by simp[h2]) ?_;refine⟨_,rfl,_,rfl,s,_,rfl,sti.get hpt,_,rfl,_,rfl,fx.1,_,rfl,stf.get f4,s,fo,n,m,pt,so,fx.2.name,fl,rfl,sti,hfo,sm _ _ hF,hfs.same sm,hfl,⟨fx,hm,by unfold fits;simp[h1]⟩,fun x H' hx hf hmt s'=>?_⟩;obtain⟨⟨mx,stx,_,_,_,_,_,g6⟩,_⟩:=(hfs x hx).same (sm.trans s');refine⟨x.1,_,rfl,stx.get g6,_,rfl,fx.1,_,rfl,(stf.same s').get f6,rfl,_,rfl,?_⟩;have hW':=s' _ _ hWi;by_cases h3:x.2.number=fx.2.number
         · have hy:chG pt so fl false fx=true:=by unfold chG;rw[hmt];simp[h1,h3,h2]
           refine pL (by simp[h3]) ⟨_,rfl,.inl ⟨rfl,_,SqL.of hW'⟩,_,rfl,W,_,_,rfl,rfl,hW',oz,?_⟩;exact k _ _ (aG (sm.trans s') hW) (by rw[hy];exact pG) ⟨_,_,rfl⟩
         · exact pK (by simp[h3]) (no (by unfold chG;rw[hmt];simp[h3]) _ _ s' ⟨_,_,rfl⟩)
       · exact pK (by simp[h2]) (no (by unfold chG;simp[h2]) _ _ (ak.refl _) ⟨_,_,rfl⟩)
    · exact pK (by simp[h1]) (aZ (no (by unfold chG;simp[h1]) _ _ (ak.refl _) ⟨_,_,rfl⟩))
   refine⟨_,(pE (pN (i:=2) nd rfl (Or.inl rfl) (ag pC))
 (pE (bp PassesOwn.never rfl (bu (pM hu (pv 0) pD (fun _ _=>rfl))) (ae (i:=3) nd rfl (Or.inl rfl))
 (pE (pN (i:=4) nd rfl (Or.inl rfl) (mD u5 (pM hu (pv 3) pD (fun _ _=>rfl)) pD (pP _)))
 (pE (aN (PW.pt (b8 (pO aV (pM hu (pv 3) pD (fun _ _=>rfl)) pD (pP _)) (b8 (pO aV (pM hu (pv 0) pD (fun _ _=>rfl)) pD (pP _)) (bn (pO u7 (pM hu (pv 3) pD (fun _ _=>rfl)) (pM hu (pv 0) pD (fun _ _=>rfl)) (pP _)))))) (pI (pN (i:=4) nd rfl (Or.inl rfl) dW)) aE) h2)))
 (pI (az (pv 2))))),?_⟩
   dsimp only[bJ,bN,bM];refine⟨ef,fun W hW=>?_⟩;have k1:=smu (o:=HO.lst []) hW;have hW1:(upd H W (.lst [])) W=some (.lst []):=pG;generalize upd H W (.lst [])=H1 at k1 hW1 ⊢;refine⟨_,rfl,s,_,rfl,(st.same k1).get hfo,fo,rfl,⟨_,SqL.of (k1 _ _ hF)⟩,?_⟩;show aw _ _ _ _ _ _;refine aw.byN (aK (xs:=fl.map fun x=>V.ref x.1)) (fun i σ Hi=>ak H Hi∧Hi W=some (.lst (((fl.take i).filter fun x=>chG pt so fl (chF hd fn x) x).map fun x=>V.ref x.1))∧∃ x3 x4,σ=[some (.ref s),some (.str so),some (.ref W),x3,x4])
    ⟨k1,hW1,_,_,rfl⟩ (fun i σ Hi _ z=>SqL.of (z.1 _ _ hF)) ?_ ?_
   · rintro i x σ Hi N_ B_ hN_ hB_ hxi ⟨sm,hWi,x3,x4,rfl⟩;have hin:i<fl.length:=by have:=(gES.mp hxi).1;rwa [lMp] at this
     rw[gEM] at hxi;obtain⟨fx,hfx,rfl⟩:=oMS.mp hxi;have hm:=mGE hfx;obtain⟨⟨mf,stf,f1,f2,f3,f4,f5,f6⟩,_⟩:=(hfs fx hm).same sm;have sti:=st.same sm;have hstep:=lM (fun x=>chG pt so fl (chF hd fn x) x) hfx;have hlen:(((fl.take i).filter fun x=>chG pt so fl (chF hd fn x) x).map fun x=>V.ref x.1).length≤1000:=by
      rw[lMp];exact Nat.le_trans (List.length_filter_le _ _) (by rw[lTk];exact tE)
     refine⟨_,rfl,fx.1,_,rfl,stf.get f2,rfl,?_⟩;refine⟨_,rfl,fx.1,_,rfl,stf.get f2,rfl,_,rfl,?_⟩;by_cases g1:fx.2.head="function"
     · refine pL (by simp[g1]) ⟨_,rfl,s,_,rfl,sti.get hhd,rfl,_,rfl,?_⟩;by_cases g2:hd="function"
       · refine pL (by simp[g2]) ⟨_,rfl,fx.1,_,rfl,stf.get f6,_,rfl,s,_,rfl,sti.get hfn,_,_,rfl,rfl,_,rfl,?_⟩;by_cases g3:fn≤fx.2.number
         · refine pL (by simp[g3]) ?_;have e:chF hd fn fx=false:=by unfold chF;simp[g1,g2,g3]
           exact q2 _ false W fx Hi _ sm hm hW hWi hlen fun H' σ' s' h' hσ=>hN_ _ _ ⟨s',by rw[hstep,e];exact h',hσ⟩
         · refine pK (by simp only[decide_eq_true_eq];exact g3) ?_;have e:chF hd fn fx=!(decide (V.str fx.2.head=V.str "open")):=by unfold chF;simp[g3]
           exact q2 _ _ W fx Hi _ sm hm hW hWi hlen fun H' σ' s' h' hσ=>hN_ _ _ ⟨s',by rw[hstep,e];exact h',hσ⟩
       · refine pK (by simp[g2]) (aZ ?_);have e:chF hd fn fx=!(decide (V.str fx.2.head=V.str "open")):=by unfold chF;simp[g2]
         exact q2 _ _ W fx Hi _ sm hm hW hWi hlen fun H' σ' s' h' hσ=>hN_ _ _ ⟨s',by rw[hstep,e];exact h',hσ⟩
     · refine pK (by simp[g1]) (aZ ?_);have e:chF hd fn fx=!(decide (V.str fx.2.head=V.str "open")):=by unfold chF;simp[g1]
       exact q2 _ _ W fx Hi _ sm hm hW hWi hlen fun H' σ' s' h' hσ=>hN_ _ _ ⟨s',by rw[hstep,e];exact h',hσ⟩
   · rintro σ Hi ⟨sm,hWi,x3,x4,rfl⟩;rw[lMp,List.take_length] at hWi;exact⟨_,rfl,q W Hi sm hW hWi⟩
end
structure Ctx where
  A:Adr
  n:Nat
  ns:List Int
  fo:Addr
  fl:FL
  p:Nat
  r:Addr
  fn:Nat
  hd:Str
structure FE (H:Hp) (C:Ctx):Prop where
  fv:H C.fo=some (.lst (C.fl.map fun x=>V.ref x.1))
  fs:FsV H C.fl
  le:C.fl.length≤1000
  nfo:C.fo∉C.A.rs
  nf:∀ x∈C.fl,x.1≠C.A.s∧x.2.inner∉C.A.rs
  inn:∀ x∈C.fl,x.2.inn.length≤4∧(x.2.sort="record"→0<x.2.inn.length)
abbrev SK:=NKV×Int×Int
structure SM (C:Ctx) (m:Str→Option V) (j:Int×Int):Prop where
  pt:m "part"=some (.int ((C.p:Nat):Int))
  fn:m "function"=some (.int ((C.fn:Nat):Int))
  hd:m "head"=some (.str C.hd)
  nx:m "next"=some (.int j.1)
  fu:∃ i,m "funs"=some (.int i)
  lf:m "left"=some (.int j.2)
  fo:m "forms"=some (.ref C.fo)
structure SX (P:Program) (w:World) (K:Fg) (H:Hp) (C:Ctx) (N:Nat) (skv:SK):Prop where
  ex:∃ m k B,SI P w K H C.A C.n m C.ns k B skv.1∧k≤((N:Nat):Int)∧B≤N∧SM C m skv.2
  rr:C.A.rs[C.p]?=some C.r
  fe:FE H C
theorem SM.put {C:Ctx} {m:Str→Option V} {j:Int×Int} (x:SM C m j) {y:Str} {i:Int} (hy:y="k"∨y="funs"):SM C (aJ m y (.int i)) j:=by
 have e:∀ z:Str,z≠y→aJ m y (.int i) z=m z:=fun z hz=>aj m _ hz;have ne:("part":Str)≠y∧("function":Str)≠y∧("head":Str)≠y∧("forms":Str)≠y∧("next":Str)≠y∧("left":Str)≠y:=by
  rcases hy with rfl | rfl <;> decide +kernel
 refine⟨by rw[e _ ne.1];exact x.pt,by rw[e _ ne.2.1];exact x.fn,by rw[e _ ne.2.2.1];exact x.hd,by rw[e _ ne.2.2.2.2.1];exact x.nx,?_,by rw[e _ ne.2.2.2.2.2];exact x.lf,by rw[e _ ne.2.2.2.1];exact x.fo⟩;by_cases h:("funs":Str)=y
 · rw[← h];exact⟨i,be _ _ _⟩
 · rw[e _ h];exact x.fu
theorem SM.putN {C:Ctx} {m:Str→Option V} {j:Int×Int} (x:SM C m j) (i:Int):SM C (aJ m "next" (.int i)) (i,j.2):=by
 have e:∀ z:Str,z≠"next"→aJ m "next" (.int i) z=m z:=fun z hz=>aj m _ hz;exact⟨by rw[e _ (by decide +kernel)];exact x.pt,by rw[e _ (by decide +kernel)];exact x.fn,by rw[e _ (by decide +kernel)];exact x.hd,be _ _ _,by rw[e _ (by decide +kernel)];exact x.fu,by rw[e _ (by decide +kernel)];exact x.lf,by rw[e _ (by decide +kernel)];exact x.fo⟩
theorem SM.putL {C:Ctx} {m:Str→Option V} {j:Int×Int} (x:SM C m j) (i:Int):SM C (aJ m "left" (.int i)) (j.1,i):=by
 have e:∀ z:Str,z≠"left"→aJ m "left" (.int i) z=m z:=fun z hz=>aj m _ hz;exact⟨by rw[e _ (by decide +kernel)];exact x.pt,by rw[e _ (by decide +kernel)];exact x.fn,by rw[e _ (by decide +kernel)];exact x.hd,by rw[e _ (by decide +kernel)];exact x.nx,by rw[e _ (by decide +kernel)];exact x.fu,be _ _ _,by rw[e _ (by decide +kernel)];exact x.fo⟩
section
variable {P:Program} {w:World} {K:Fg} {H H':Hp} {A:Adr} {n:Nat} {m:Str→Option V} {ns:List Int} {k:Int} {B:Nat} {skv:NKV}
theorem SI.kp (x:SI P w K H A n m ns k B skv) (kp:ac A H H') {b:Addr} {o:HO} (h:H b=some o) (h1:b≠A.s) (h2:b∉A.rs) (h3:∀ kv,o≠.dT kv) (h4:∀ φ,o≠.ext φ):H' b=some o:=by
 obtain⟨kt,ht,_⟩:=x.tv;obtain⟨kn,hn,_⟩:=x.nv;obtain⟨ke,he,_⟩:=x.ev;refine kp b o h1 h2 (fun e=>?_) (fun e=>?_) (fun e=>?_) (fun e=>?_) h
 · rw[e,ht] at h;exact h3 _ (Option.some.inj h).symm
 · rw[e,hn] at h;exact h3 _ (Option.some.inj h).symm
 · rw[e,x.sv] at h;exact h4 _ (Option.some.inj h).symm
 · rw[e,he] at h;exact h4 _ (Option.some.inj h).symm
theorem SI.kL (x:SI P w K H A n m ns k B skv) (kp:ac A H H') {b:Addr} {xs:List V} (h:H b=some (.lst xs)) (h2:b∉A.rs):H' b=some (.lst xs) :=
 x.kp kp h (x.sne h fun _ z=>nomatch z) h2 (fun _ z=>nomatch z) (fun _ z=>nomatch z)
theorem SI.nrs (x:SI P w K H A n m ns k B skv) {b:Addr} {o:HO} (h:H b=some o) (hd:∀ ys,o≠.lst ys):b∉A.rs:=fun e=>by
 obtain⟨ws,h1,_⟩:=x.rw b e;rw[h1] at h;exact hd _ (Option.some.inj h).symm
theorem SI.kD (x:SI P w K H A n m ns k B skv) (kp:ac A H H') {b:Addr} {kvs:List (Key×V)} (h:H b=some (.dK kvs)) (h1:b≠A.s):H' b=some (.dK kvs) :=
 x.kp kp h h1 (x.nrs h fun _ z=>nomatch z) (fun _ z=>nomatch z) (fun _ z=>nomatch z)
theorem SI.new (x:SI P w K H A n m ns k B skv) {b:Addr} (h:H b=none):b∉A.rs:=fun e=>by
 obtain⟨ws,h1,_⟩:=x.rw b e;rw[h1] at h;cases h
theorem SI.tk (x:SI P w K H A n m ns k B skv) (kp:ac A H H'):Tk H H':=fun b xs h=>by
 rcases h with h | ⟨o,h⟩
 · exact .inl (ac.tk x kp b xs h)
 · exact .inr ⟨o,x.kp kp h (x.sne h fun _ z=>nomatch z) (x.nrs h fun _ z=>nomatch z) (fun _ z=>nomatch z) (fun _ z=>nomatch z)⟩
theorem SI.smf (x:SI P w K H A n m ns k B skv) {m':Str→Option V} {k':Int} (sm:Smf A.s H H') (pk':Pk K H' A.s n m' A.a ns k') (e1:m' "rows"=m "rows") (e2:m' "things"=m "things") (e3:m' "nodes"=m "nodes") (e4:m' "spans"=m "spans") (e5:m' "seen"=m "seen"):SI P w K H' A n m' ns k' B skv:=by
 have kp:∀ {b:Addr} {o:HO},H b=some o→(∀ kvs,o≠.dK kvs)→H' b=some o:=fun {b o} h hd=>sm b o (x.sne h hd) h;have kt:∀ c ys,H c=some (.tup ys)→H' c=some (.tup ys):=fun c ys h=>kp h fun kvs z=>nomatch z;exact
 { pk:=pk'
   al:=x.al.imp_right fun ⟨b,hb⟩=>⟨b,sm _ _ x.pk.ne hb⟩
   ro:=by rw[e1];exact x.ro
   rv:=kp x.rv fun kvs z=>nomatch z
   rw:=fun r hr=>by obtain⟨ws,h1,h2⟩:=x.rw r hr;exact⟨ws,kp h1 (fun kvs z=>nomatch z),h2⟩
   rne:=x.rne
   ra:=x.ra
   th:=by rw[e2];exact x.th
   tv:=by obtain⟨kv,h1,h2⟩:=x.tv;exact⟨kv,kp h1 (fun kvs z=>nomatch z),h2⟩
   no:=by rw[e3];exact x.no
   nv:=by obtain⟨kv,h1,h2⟩:=x.nv;exact⟨kv,kp h1 (fun kvs z=>nomatch z),h2⟩
   sp:=by rw[e4];exact x.sp
   sv:=kp x.sv fun kvs z=>nomatch z
   sa:=x.sa.keep kt
   sl:=x.sl
   se:=by rw[e5];exact x.se
   ev:=by obtain⟨kv,h1,h2,h3⟩:=x.ev;exact⟨kv,kp h1 (fun kvs z=>nomatch z),h2.keep kt,h3⟩
   ne:=x.ne }
theorem SI.smk (x:SI P w K H A n m ns k B skv) {k':Int} (sm:Smf A.s H H') (pk':Pk K H' A.s n (aJ m "k" (.int k')) A.a ns k'):SI P w K H' A n (aJ m "k" (.int k')) ns k' B skv :=
 x.smf sm pk' (aj m _) (aj m _) (aj m _) (aj m _) (aj m _)
theorem ac.smf (sm:Smf A.s H H'):ac A H H':=fun b o h1 _ _ _ _ _ e=>sm b o h1 e
end
section
variable {P:Program} {w:World} {K:Fg} {H H':Hp} {C:Ctx} {N:Nat} {skv:SK} {m:Str→Option V} {k:Int} {B:Nat}
theorem FE.keep {skv:NKV} (f:FE H C) (x:SI P w K H C.A C.n m C.ns k B skv) (kp:ac C.A H H'):FE H' C:=by
 refine⟨x.kL kp f.fv f.nfo,fun y hy=>?_,f.le,f.nfo,f.nf,f.inn⟩;obtain⟨⟨mf,⟨kvs,h1,h2⟩,r⟩,i⟩:=f.fs y hy;obtain⟨n1,n2⟩:=f.nf y hy;exact⟨⟨mf,⟨kvs,x.kD kp h1 n1,h2⟩,r⟩,x.kL kp i n2⟩
theorem SX.same (x:SX P w K H C N skv) (e:ak H H'):SX P w K H' C N skv:=by
 obtain⟨⟨m,k,B,si,r⟩,rr,fe⟩:=x;exact⟨⟨m,k,B,si.same e,r⟩,rr,fe.keep si (ac.of e)⟩
theorem SX.more (x:SX P w K H C N skv) {N':Nat} (h:N≤N'):SX P w K H C N' skv:=by
 obtain⟨⟨m,k,B,si,hk,hB,r⟩,rr,fe⟩:=x;exact⟨⟨m,k,B,si,CT,b_t,r⟩,rr,fe⟩
theorem SX.tk (x:SX P w K H C N skv) (kp:ac C.A H H'):Tk H H':=by
 obtain⟨⟨m,k,B,si,r⟩,rr,fe⟩:=x;exact si.tk kp
theorem SX.kL (x:SX P w K H C N skv) (kp:ac C.A H H') {b:Addr} {xs:List V} (h:H b=some (.lst xs)) (h2:b∉C.A.rs):H' b=some (.lst xs):=by
 obtain⟨⟨m,k,B,si,r⟩,rr,fe⟩:=x;exact si.kL kp h h2
theorem SX.kT (x:SX P w K H C N skv) (kp:ac C.A H H') {b:Addr} {xs:List V} (h:H b=some (.tup xs)):H' b=some (.tup xs):=by
 obtain⟨⟨m,k,B,si,r⟩,rr,fe⟩:=x;exact ac.tk si kp b xs h
theorem SX.new (x:SX P w K H C N skv) {b:Addr} (h:H b=none):b∉C.A.rs:=by
 obtain⟨⟨m,k,B,si,r⟩,rr,fe⟩:=x;exact si.new h
theorem SX.getI (x:SX P w K H C N skv):∃ i,bR H C.A.s (.str "funs") (some (.int i)):=by
 obtain⟨⟨m,k,B,si,hk,hB,sm⟩,rr,fe⟩:=x;obtain⟨i,h⟩:=sm.fu;exact⟨i,si.pk.st.get h⟩
theorem SX.getL (x:SX P w K H C N skv):bR H C.A.s (.str "left") (some (.int skv.2.2)):=by
 obtain⟨⟨m,k,B,si,hk,hB,sm⟩,rr,fe⟩:=x;exact si.pk.st.get sm.lf
theorem SX.putI (x:SX P w K H C N skv) {y:Str} (hy:y="funs"∨y="left") (i:Int):∃ H',dk H C.A.s (.str y) (.int i) H'∧ac C.A H H'∧SX P w K H' C N (skv.1,skv.2.1,if y="left" then i else skv.2.2):=by
 obtain⟨⟨m,k,B,si,hk,hB,sm⟩,rr,fe⟩:=x;obtain⟨j,hj⟩:∃ j,m y=some (.int j):=by
  rcases hy with rfl | rfl
  · exact sm.fu
  · exact⟨_,sm.lf⟩
 obtain⟨H',dp,mo,st⟩:=si.pk.st.put hj (.int i) si.pk.hn;have nk:∀ {z:Str},z≠y→aJ m y (.int i) z=m z:=fun {z} hz=>aj m _ hz;have ne:(("script":Str)≠y∧("k":Str)≠y)∧("rows":Str)≠y∧("things":Str)≠y∧("nodes":Str)≠y∧("spans":Str)≠y∧("seen":Str)≠y:=by
  rcases hy with rfl | rfl <;> decide +kernel
 have pk':Pk K H' C.A.s C.n (aJ m y (.int i)) C.A.a C.ns k:=⟨st,si.pk.hn,by rw[nk ne.1.1];exact si.pk.sc,si.pk.ne,SqL.mo si.pk.sq mo si.pk.ne,si.pk.len,by rw[nk ne.1.2];exact si.pk.hk,si.pk.k0⟩;have sm':SM C (aJ m y (.int i)) (skv.2.1,if y="left" then i else skv.2.2):=by
  rcases hy with rfl | rfl
  · rw[if_neg (by decide +kernel)];exact sm.put (.inr rfl)
  · rw[if_pos rfl];exact sm.putL i
 exact⟨H',dp,ac.mo mo,⟨_,_,_,si.put mo pk' (nk ne.2.1) (nk ne.2.2.1) (nk ne.2.2.2.1) (nk ne.2.2.2.2.1) (nk ne.2.2.2.2.2),hk,hB,sm'⟩,rr,fe.keep si (ac.mo mo)⟩
theorem SX.putF (x:SX P w K H C N skv) (i:Int):∃ H',dk H C.A.s (.str "funs") (.int i) H'∧ac C.A H H'∧SX P w K H' C N skv:=by
 obtain⟨H',a,b,c⟩:=x.putI (.inl rfl) i;rw[if_neg (by decide +kernel)] at c;exact⟨H',a,b,c⟩
theorem SX.putL (x:SX P w K H C N skv) (i:Int):∃ H',dk H C.A.s (.str "left") (.int i) H'∧ac C.A H H'∧SX P w K H' C N (skv.1,skv.2.1,i):=by
 obtain⟨H',a,b,c⟩:=x.putI (.inr rfl) i;rw[if_pos rfl] at c;exact⟨H',a,b,c⟩
end
section
variable {P:Program} {w:World} {K:Fg} {mg:SOV} {base:Heap}
theorem Fn.weak {x:Str} {k:Nat} {ps:List Str} {sp sp':Sp} (F:Fn P w K mg base x k ps sp) (h:∀ vs H Q E,sp' vs H Q E→sp vs H Q E):Fn P w K mg base x k ps sp':=by
 obtain⟨f,fd,G,r⟩:=F.ex;exact⟨f,fd,⟨fun vs H Q E z=>G.len vs H Q E (h _ _ _ _ z),fun A outer s H args us vs Q E a b c d z=>G.run A outer s H args us vs Q E a b c d (h _ _ _ _ z)⟩,r⟩
inductive qX (P:Program) (w:World) (K:Fg) (vs:List V) (H:Hp) (Q:VK):Prop
  | mk (C:Ctx) (N:Nat) (skv:SK) (many:Int) (g0_:vs=[.ref C.A.s,.int many]) (g1_:SX P w K H C N skv) (g2_:N<900000) (g3_:0<many) (g4_:∀ r H',0≤r→r<many→ac C.A H H'→SX P w K H' C (N+1) skv→Q (.int r) H'):qX P w K vs H Q
def fI (P:Program) (w:World) (K:Fg):Sp:=fun vs H Q _=>qX P w K vs H Q
theorem pkX (F:Fn P w K mg base "_law_pick" 2 ["_law_state","_law_many"] (iD K)):Fn P w K mg base "_law_pick" 2 ["_law_state","_law_many"] (fI P w K):=by
 refine Fn.weak F fun vs H Q E z=>?_;obtain⟨C,N,skv,many,e,x,hN,hm,q⟩:=z;obtain⟨⟨m,k,B,si,hk,hB,sm⟩,rr,fe⟩:=x;exact⟨C.A.s,C.A.a,C.n,m,C.ns,k,many,e,si.pk.st,si.pk.hn,si.pk.sc,si.pk.ne,si.pk.sq,si.pk.len,si.pk.hk,si.pk.k0,CU,hm,fun r H' r0 r1 mo st=>q r H' r0 r1 (ac.mo mo) ⟨⟨_,_,_,si.pick mo st,CW,c_a,sm.put (.inl rfl)⟩,rr,fe.keep si (ac.mo mo)⟩⟩
inductive rc (P:Program) (w:World) (K:Fg) (vs:List V) (H:Hp) (Q:VK):Prop
  | mk (C:Ctx) (N:Nat) (skv:SK) (L:Addr) (zs:List Str) (c:Nat) (g0_:vs=[.ref C.A.s,.ref L]) (g1_:zs.length=c) (g2_:SX P w K H C N skv) (g3_:H L=some (.lst (zs.map V.str))) (g4_:L∉C.A.rs) (g5_:N+c<900000) (g6_:∀ i H',ac C.A H H'→SX P w K H' C (N+c) skv→Q (.int i) H'):rc P w K vs H Q
def fJ (P:Program) (w:World) (K:Fg):Sp:=fun vs H Q _=>rc P w K vs H Q
theorem lyX (F:Fn P w K mg base "_law_lay" 1 ["_law_state","_law_words"] (rN K)):Fn P w K mg base "_law_lay" 1 ["_law_state","_law_words"] (fJ P w K):=by
 refine Fn.weak F fun vs H Q E z=>?_;obtain⟨C,N,skv,L,zs,c,e,rfl,x,hL,hLr,hN,q⟩:=z;obtain⟨⟨m,k,B,si,hk,hB,sm⟩,rr,fe⟩:=x;have hrm:C.r∈C.A.rs:=mGE rr;obtain⟨ws,hw,hwl⟩:=si.rw C.r hrm;refine⟨C.A.s,L,C.A.ro,C.r,C.n,m,C.p,C.A.rs,ws,zs,e,si.pk.st,si.ro,sm.pt,si.rv,rr,hw,hL,fun z=>hLr (z▸hrm),by lia,?_⟩;exact q _ _ (ac.laid hrm) ⟨⟨m,k,N+zs.length,(si.more (B':=N+zs.length) (c_a)).laid hrm (by rw[lAp];lia),ou,Nat.le_refl _,sm⟩,rr,fe.keep si (ac.laid hrm)⟩
inductive qV (P:Program) (w:World) (K:Fg) (vs:List V) (H:Hp) (Q:VK):Prop
  | mk (C:Ctx) (N:Nat) (skv:SK) (i:Int) (x:V) (g0_:vs=[.ref C.A.s,.int i,x]) (g1_:SX P w K H C N skv) (g2_:N<900000) (g3_:∀ H',ac C.A H H'→SX P w K H' C (N+1) skv→Q .non H'):qV P w K vs H Q
def iQ (P:Program) (w:World) (K:Fg):Sp:=fun vs H Q _=>qV P w K vs H Q
theorem tlX (F:Fn P w K mg base "_law_tell" 1 ["_law_state","_law_at","_law_thing"] (vn K)):Fn P w K mg base "_law_tell" 1 ["_law_state","_law_at","_law_thing"] (iQ P w K):=by
 refine Fn.weak F fun vs H Q E z=>?_;obtain⟨C,N,skv,i,x,e,⟨⟨m,k,B,si,hk,hB,sm⟩,rr,fe⟩,hN,q⟩:=z;obtain⟨kv,hkv,hkl⟩:=si.tv;refine⟨C.A.s,C.A.th,C.n,m,_,i,x,kv,e,si.pk.st,si.th,sm.pt,hkv,oo,fun H' kv' s' h' hl'=>?_⟩;exact q _ (ac.told s') ⟨⟨m,k,B+1,si.told s' h' (by lia),ou,lT,sm⟩,rr,fe.keep si (ac.told s')⟩
inductive qY (P:Program) (w:World) (K:Fg) (vs:List V) (H:Hp) (Q:VK):Prop
  | mk (C:Ctx) (N:Nat) (skv:SK) (g0_:vs=[.ref C.A.s]) (g1_:SX P w K H C N skv) (g2_:N+2<900000) (g3_:∀ z H',z∈nms→ac C.A H H'→SX P w K H' C (N+2) skv→Q (.str z) H'):qY P w K vs H Q
def mq (P:Program) (w:World) (K:Fg):Sp:=fun vs H Q _=>qY P w K vs H Q
theorem nmX (F:Fn P w K mg base "_law_name" 3 ["_law_state"] (vo K)):Fn P w K mg base "_law_name" 3 ["_law_state"] (mq P w K):=by
 refine Fn.weak F fun vs H Q E z=>?_;obtain⟨C,N,skv,e,⟨⟨m,k,B,si,hk,hB,sm⟩,rr,fe⟩,hN,q⟩:=z;exact⟨C.A.s,C.A.a,C.n,m,C.ns,k,e,si.pk,AL,fun z H' hz s' p'=>q z H' hz (ac.smf s') ⟨⟨_,_,_,si.smk s' p',by lia,c_a,sm.put (.inl rfl)⟩,rr,fe.keep si (ac.smf s')⟩⟩
inductive qU (P:Program) (w:World) (K:Fg) (vs:List V) (H:Hp) (Q:VK):Prop
  | mk (C:Ctx) (N:Nat) (skv:SK) (O:Addr) (os:List Str) (most:Nat) (g0_:vs=[.ref C.A.s,.ref O,.int ((most:Nat):Int)]) (g1_:SX P w K H C N skv) (g2_:H O=some (.lst (os.map V.str))) (g3_:most≤100) (g4_:N+1+2*most<900000) (g5_:∀ (W:Addr) (zs:List Str) (H':Hp),zs.length≤most→(∀ z∈zs,z∈nms)→W∉C.A.rs→H' W=some (.lst (zs.map V.str))→ac C.A H H'→SX P w K H' C (N+1+2*most) skv→Q (.ref W) H'):qU P w K vs H Q
def oS (P:Program) (w:World) (K:Fg):Sp:=fun vs H Q _=>qU P w K vs H Q
theorem unX (F:Fn P w K mg base "_law_unlike" 4 ["_law_state","_law_others","_law_most"] (vm K)):Fn P w K mg base "_law_unlike" 4 ["_law_state","_law_others","_law_most"] (oS P w K):=by
 refine Fn.weak F fun vs H Q E z=>?_;obtain⟨C,N,skv,O,os,most,e,⟨⟨m,k,B,si,hk,hB,sm⟩,rr,fe⟩,hO,hm,hN,q⟩:=z;exact⟨C.A.s,C.A.a,O,C.n,m,C.ns,k,os,most,e,si.pk,si.al,by lia,hO,hm,fun W zs k' H' c1 c2 hz hzn hW hW' s' p'=>q W zs H' hz hzn (si.new hW) hW' (ac.smf s') ⟨⟨_,k',B,si.smk s' p',by lia,CO,sm.put (.inl rfl)⟩,rr,fe.keep si (ac.smf s')⟩⟩
inductive ri (P:Program) (w:World) (K:Fg) (vs:List V) (H:Hp) (Q:VK):Prop
  | mk (C:Ctx) (N:Nat) (skv:SK) (z:Str) (b:Bool) (g0_:vs=[.ref C.A.s,.str z,.bl b]) (g1_:SX P w K H C N skv) (g2_:N<900000) (g3_:∀ v t H',ac C.A H H'→SX P w K H' C (N+1) (skv.1,skv.2.1+1,skv.2.2)→TD K H' v (dSe t)→t.2.1=skv.2.1→Q v H'):ri P w K vs H Q
def iR (P:Program) (w:World) (K:Fg):Sp:=fun vs H Q _=>ri P w K vs H Q
theorem bdX (F:Fn P w K mg base "_law_bind" 2 ["_law_state","_law_name_here","_law_is_var"] (xU P w K)):Fn P w K mg base "_law_bind" 2 ["_law_state","_law_name_here","_law_is_var"] (iR P w K):=by
 refine Fn.weak F fun vs H Q E z=>?_;obtain⟨C,N,skv,z,b,e,⟨⟨m,k,B,si,hk,hB,sm⟩,rr,fe⟩,hN,q⟩:=z;obtain⟨fu,hfu⟩:=sm.fu;exact⟨C.A,C.n,m,C.ns,k,B,skv.1,z,b,C.p,C.r,skv.2.1,_,fu,e,si,c_x,sm.pt,rr,sm.nx,sm.fn,hfu,fun v H' kp s' td=>q v (z,skv.2.1,b,fu) H' kp ⟨⟨_,_,_,s',ou,lT,sm.putN _⟩,rr,fe.keep si kp⟩ td rfl⟩
inductive qZ (P:Program) (w:World) (K:Fg) (vs:List V) (H:Hp) (Q:VK):Prop
  | mk (C:Ctx) (N:Nat) (skv:SK) (g0_:vs=[.ref C.A.s]) (g1_:SX P w K H C N skv) (g2_:N+3<900000) (g3_:∀ v i H',ac C.A H H'→SX P w K H' C (N+3) skv→TD K H' v (.tuple [.str "number",.int i])→Q v H'):qZ P w K vs H Q
def mt (P:Program) (w:World) (K:Fg):Sp:=fun vs H Q _=>qZ P w K vs H Q
theorem nbX (F:Fn P w K mg base "_law_number" 3 ["_law_state"] (xK P w K)):Fn P w K mg base "_law_number" 3 ["_law_state"] (mt P w K):=by
 refine Fn.weak F fun vs H Q E z=>?_;obtain⟨C,N,skv,e,⟨⟨m,k,B,si,hk,hB,sm⟩,rr,fe⟩,hN,q⟩:=z;exact⟨C.A,C.n,m,C.ns,k,B,skv.1,C.p,C.r,e,si,CG,CV,sm.pt,rr,fun v i H' _ _ kp s' td=>q v i H' kp ⟨⟨_,_,_,s',by lia,lT,sm.put (.inl rfl)⟩,rr,fe.keep si kp⟩ td⟩
def SeV (K:Fg) (H:Hp) (C:Ctx) (S:Addr) (sn:List Int):Prop:=∃ (xs:List V) (sv:List (Str×Int×Bool×Int)),H S=some (.lst xs)∧TDs K H xs (sv.map dSe)∧(sv.map fun t=>t.2.1)=sn∧S∉C.A.rs
theorem SeV.keep {H H':Hp} {C:Ctx} {N:Nat} {skv:SK} {S:Addr} {sn:List Int} (h:SeV K H C S sn) (x:SX P w K H C N skv) (kp:ac C.A H H'):SeV K H' C S sn:=by
 obtain⟨xs,sv,h1,h2,h3,h4⟩:=h;exact⟨xs,sv,x.kL kp h1 h4,h2.tk (x.tk kp),h3,h4⟩
inductive qW (P:Program) (w:World) (K:Fg) (vs:List V) (H:Hp) (Q:VK):Prop
  | mk (C:Ctx) (N:Nat) (skv:SK) (S:Addr) (sn:List Int) (b:Bool) (g0_:vs=[.ref C.A.s,.ref S,.bl b]) (g1_:SX P w K H C N skv) (g2_:SeV K H C S sn) (g3_:sn.length≤100) (g4_:∀ (W:Addr) (zs:List V) (ts:List (Str×Int×Bool×Int)) (H':Hp),ak H H'→H W=none→H' W=some (.lst zs)→TDs K H' zs (ts.map dSe)→ts.length≤100→(∀ t∈ts,t.2.1∈sn)→Q (.ref W) H'):qW P w K vs H Q
def mn (P:Program) (w:World) (K:Fg):Sp:=fun vs H Q _=>qW P w K vs H Q
theorem snX (F:Fn P w K mg base "_law_seen" 1 ["_law_state","_law_seen_here","_law_is_set"] (xG K)):Fn P w K mg base "_law_seen" 1 ["_law_state","_law_seen_here","_law_is_set"] (mn P w K):=by
 refine Fn.weak F fun vs H Q E z=>?_;obtain⟨C,N,skv,S,sn,b,e,⟨⟨m,k,B,si,hk,hB,sm⟩,rr,fe⟩,⟨xs,sv,h1,h2,h3,h4⟩,hsn,q⟩:=z;obtain⟨fu,hfu⟩:=sm.fu;exact⟨C.A.s,S,C.n,m,b,fu,xs,sv,e,si.pk.st,hfu,h1,h2,by rw[← h3,lMp] at hsn;omega,fun W zs ts H' s' hW hW' ht hl hm=>q W zs ts H' s' hW hW' ht (by rw[← h3,lMp] at hsn;omega) fun t z=>by rw[← h3];exact List.mem_map.mpr ⟨t,hm t z,rfl⟩⟩
def e9 (C:Ctx) (so:Str):FL:=chs ((C.p:Nat):Int) ((C.fn:Nat):Int) C.hd so C.fl
theorem mQ {C:Ctx} {so:Str}:∀ x∈e9 C so,x∈C.fl∧x.2.sort=so:=fun x hx=>by
 obtain⟨h1,h2⟩:=List.mem_filter.mp hx;refine⟨h1,?_⟩;unfold chG at h2;simp at h2;exact h2.1
inductive rh (P:Program) (w:World) (K:Fg) (vs:List V) (H:Hp) (Q:VK):Prop
  | mk (C:Ctx) (N:Nat) (skv:SK) (so:Str) (g0_:vs=[.ref C.A.s,.str so]) (g1_:SX P w K H C N skv) (g2_:∀ (W:Addr) (H':Hp),ak H H'→H W=none→H' W=some (.lst ((e9 C so).map fun x=>V.ref x.1))→Q (.ref W) H'):rh P w K vs H Q
def mw (P:Program) (w:World) (K:Fg):Sp:=fun vs H Q _=>rh P w K vs H Q
theorem coX (F:Fn P w K mg base "_law_choices" 2 ["_law_state","_law_sort"] (xS K)):Fn P w K mg base "_law_choices" 2 ["_law_state","_law_sort"] (mw P w K):=by
 refine Fn.weak F fun vs H Q E z=>?_;obtain⟨C,N,skv,so,e,⟨⟨m,k,B,si,hk,hB,sm⟩,rr,fe⟩,q⟩:=z;exact⟨C.A.s,C.fo,C.n,m,_,_,so,C.hd,C.fl,e,si.pk.st,sm.fo,sm.pt,sm.fn,sm.hd,fe.fv,fe.fs,fe.le,fun W H' s' hW hW'=>q W H' s' hW hW'⟩
end
end K12
namespace P10
open PySem L2
def lD:PyData→Option PyData
  | .tuple (.str h::ps)=>eJ h ps
  | _=>none
def jM:PyData→PDs
  | .tuple (.str h::ps)=>bi h ps
  | _=>[]
def FrD:Nat→PyData→Int→Prop
  | 0,_,_=>False
  | n+1,d,i=>lD d=some (.int i)∨∃ k x,(ao d)[k]?=some x∧FrD n x i∧(k+1=(ao d).length→PyData.int i∉jM d)
theorem sW {n m:Nat} {d:PyData} {i:Int} (wf:WFd n d) (h:FrD m d i):FrD n d i:=by
 induction n generalizing m d with
 | zero=>exact wf.elim
 | succ n ih =>
  cases m with
  | zero=>exact h.elim
  | succ m =>
   rcases h with h | ⟨k,x,h1,h2,h3⟩
   · exact .inl h
   · exact .inr ⟨k,x,h1,ih (wf.kid (mGE h1)) h2,h3⟩
theorem ii {h:Str} {ps:PDs} (e:bb h w8=false):eJ h ps=none:=by unfold eJ;rw[e];rfl
structure OkE (B:List Int) (n:Nat) (d:PyData):Prop where
  wf:WFd n d
  lay:d.canLay0=true
  dep:d.depth≤2*n
  cl:∀ i,FrD n d i→i∈B
def cst:Nat→Nat
  | 0=>10
  | n+1=>8*cst n+40
theorem dG (n:Nat):10≤cst n:=by
 induction n with
 | zero=>exact Nat.le_refl _
 | succ n ih=>show 10≤8*cst n+40;exact c_f
def nk (fn:Nat) (p:List Nat):NK:=(.inl ((fn:Nat):Int),p.map fun n=>.inl ((n:Nat):Int))
def bv (fn:Nat) (path:List Nat) (S:List Nat→Prop) (skv skv':K12.SK):Prop:=∀ x∈skv'.1,(∃ y∈skv.1,y.1=x.1)∨∃ q,S q∧x.1=nk fn (path++q)
def AtP (d:PyData) (q:List Nat):Prop:=(atD d q).isSome=true
def eV (ds:PDs) (q:List Nat):Prop:=∃ i r x,q=i::r∧ds[i]?=some x∧AtP x r
theorem bv.refl (fn:Nat) (path:List Nat) (S:List Nat→Prop) (skv:K12.SK):bv fn path S skv skv:=fun x hx=>.inl ⟨x,hx,rfl⟩
theorem bv.trans {fn:Nat} {path:List Nat} {S:List Nat→Prop} {a b c:K12.SK} (x:bv fn path S a b) (y:bv fn path S b c):bv fn path S a c:=fun z hz=>by
 rcases y z hz with ⟨u,hu,e⟩ | h
 · rcases x u hu with ⟨t,ht,e'⟩ | ⟨q,hq,e'⟩
   · exact .inl ⟨t,ht,e'.trans e⟩
   · exact .inr ⟨q,hq,e.symm.trans e'⟩
 · exact .inr h
theorem bv.imp {fn:Nat} {path:List Nat} {S T:List Nat→Prop} {a b:K12.SK} (x:bv fn path S a b) (h:∀ q,S q→T q):bv fn path T a b:=fun z hz=>by
 rcases x z hz with h' | ⟨q,hq,e⟩
 · exact .inl h'
 · exact .inr ⟨q,h q hq,e⟩
theorem bv.kid {fn:Nat} {path:List Nat} {ds:PDs} {i:Nat} {d:PyData} {a b:K12.SK} (x:bv fn (path++[i]) (AtP d) a b) (h:ds[i]?=some d):bv fn path (eV ds) a b:=fun z hz=>by
 rcases x z hz with h' | ⟨q,hq,e⟩
 · exact .inl h'
 · exact .inr ⟨i::q,⟨i,q,d,rfl,h,hq⟩,by rw[e,List.append_assoc];rfl⟩
theorem tH {d:PyData} {q:List Nat} (h:eV (ao d) q):AtP d q:=by
 obtain⟨i,r,x,rfl,h1,h2⟩:=h;show ((ao d)[i]?.bind fun x=>atD x r).isSome=true;rw[h1];exact h2
theorem bv.up {fn:Nat} {path:List Nat} {d:PyData} {a b:K12.SK} (x:bv fn path (eV (ao d)) a b):bv fn path (AtP d) a b:=x.imp fun q h=>tH h
theorem bv.put {fn:Nat} {path:List Nat} {d:PyData} {a b:K12.SK} (x:bv fn path (AtP d) a b) (ad:Addr) (v:V):bv fn path (AtP d) a (putN b.1 (nk fn path) ad v,b.2):=fun z hz=>by
 have hz:z∈putN b.1 (nk fn path) ad v:=hz;unfold putN at hz;split at hz
 · obtain⟨y,hy,e⟩:=List.mem_map.mp hz;have e1:z.1=y.1:=by
    rw[← e];split <;> rfl
   rcases x y hy with ⟨u,hu,e'⟩ | ⟨q,hq,e'⟩
   · exact .inl ⟨u,hu,e'.trans e1.symm⟩
   · exact .inr ⟨q,hq,e1.trans e'⟩
 · rcases mAp.mp hz with hz | hz
   · exact x z hz
   · rw[mSg.mp hz];exact .inr ⟨[],rfl,by rw[List.append_nil]⟩
theorem sP {ds:PDs} (h:∀ x∈ds,x.canLay0=true):PyData.canLayAll0 ds=true:=by
 induction ds with
 | nil=>rfl
 | cons d r ih =>
  show (d.canLay0&&PyData.canLayAll0 r)=true;rw[h d mCS,ih fun x hx=>h x (mCM _ hx)];rfl
theorem tq {ds:PDs} {n:Nat} (h:∀ x∈ds,x.depth≤n):PyData.depthAll ds≤n:=by
 induction ds with
 | nil=>exact Nat.zero_le _
 | cons d r ih =>
  show max d.depth (PyData.depthAll r)≤n;have:=h d mCS;have:=ih fun x hx=>h x (mCM _ hx);lia
theorem eB {ds:PDs} (h:∀ x∈ds,x.canLay0=true):(PyData.tuple ds).canLay0=true:=by
 show PyData.canLayAll0 ds=true;exact sP h
theorem eE {ds:PDs} {n:Nat} (h:∀ x∈ds,x.depth≤n):(PyData.tuple ds).depth≤n+1:=by
 show PyData.depthAll ds+1≤n+1;have:=tq h;exact lT
theorem OkE.node {B:List Int} {n:Nat} {h:Str} {sl:List Str} {ps:PDs} (nd:Nd (.tuple (.str h::ps)) h sl ps) (hs:(PyData.str h).canLay0=true) (hl:∀ x∈ps,x.canLay0=true) (hd:∀ x∈ps,x.depth≤2*n+1) (hk:∀ x∈aD sl ps,WFd n x) (hc:∀ i,FrD (n+1) (.tuple (.str h::ps)) i→i∈B):OkE B (n+1) (.tuple (.str h::ps)):=by
 refine⟨⟨h,sl,ps,nd,hk⟩,eB fun x hx=>?_,?_,hc⟩
 · rcases List.mem_cons.mp hx with rfl | hx
   · exact hs
   · exact hl x hx
 · have:=eE (ds:=.str h::ps) (n:=2*n+1) fun x hx=>by
    rcases List.mem_cons.mp hx with rfl | hx
    · exact Nat.zero_le _
    · exact hd x hx
   lia
theorem OkE.more {B:List Int} {n m:Nat} {d:PyData} (h:OkE B n d) (hn:n≤m):OkE B m d:=by
 obtain⟨wf,lay,dep,cl⟩:=h;refine⟨?_,lay,by lia,fun i z=>cl i (sW wf z)⟩;clear lay dep cl
 induction n generalizing m d with
 | zero=>exact wf.elim
 | succ n ih =>
  cases m with
  | zero=>lia
  | succ m =>
   obtain⟨h,sl,ps,nd,hk⟩:=wf;exact⟨h,sl,ps,nd,fun x hx=>ih (by lia) (hk x hx)⟩
theorem fK {d:PyData}:Shp "one" d:=⟨fun z=>absurd z (by decide +kernel),fun z=>absurd z (by decide +kernel),fun z=>absurd z (by decide +kernel),fun z=>absurd z (by decide +kernel)⟩
theorem rR {l:PDs}:Shp "many" (.tuple l):=⟨fun _=>⟨l,rfl⟩,fun z=>absurd z (by decide +kernel),fun z=>absurd z (by decide +kernel),fun z=>absurd z (by decide +kernel)⟩
theorem iF {s:Str} {i:Int} (h:s∉(["many","op","word","bounds"]:List Str)):Shp s (.int i) :=
 ⟨fun z=>absurd (by rw[z];decide +kernel) h,fun _=>⟨i,rfl⟩,fun z=>absurd (mCM _ (List.mem_append_left (["bounds"]:List Str) z)) h,fun z=>absurd (by rw[z];decide +kernel) h⟩
theorem xV {s x:Str} (h:s∉(["many","bounds","number","meant","bound","place"]:List Str)):Shp s (.str x) :=
 ⟨fun z=>absurd (by rw[z];decide +kernel) h,fun z=>absurd (mCM _ (mCM _ z)) h,fun _=>⟨x,rfl⟩,fun z=>absurd (by rw[z];decide +kernel) h⟩
theorem vv {ts:List (Str×Int×Bool×Int)} (h:ts.length≤3):Shp "bounds" (.tuple (ts.map fun t=>.int t.2.1)) :=
 ⟨fun z=>absurd z (by decide +kernel),fun z=>absurd z (by decide +kernel),fun z=>absurd z (by decide +kernel),fun _=>⟨ts.map (·.2.1),by rw[List.map_map];rfl,by rw[lMp];exact h⟩⟩
theorem OkE.leafM {B:List Int} {h:Str} {s:Str} {p:PyData} (hm:(h,[s])∈tbl) (h1:s≠"one") (h2:s≠"many") (hsp:Shp s p) (hs:(PyData.str h).canLay0=true) (hp:p.canLay0=true) (hd:p.depth=0) (n:Nat) (hc:∀ i,eJ h [p]=some (.int i)→i∈B):OkE B (n+1) (.tuple [.str h,p]):=by
 have kn:aD [s] [p]=[]:=by
  show ba s p++[]=[];unfold ba;rw[if_neg h1,if_neg h2];rfl
 refine OkE.node (sl:=[s]) (ps:=[p]) ⟨rfl,hm,.cons hsp .nil,by rw[kn];exact Nat.zero_le _⟩ hs (fun x hx=>?_) (fun x hx=>?_) (fun x hx=>?_) (fun i z=>?_)
 · rw[mSg.mp hx];exact hp
 · rw[mSg.mp hx,hd];exact Nat.zero_le _
 · rw[kn] at hx;cases hx
 · rcases z with z | ⟨k,x,h1',_⟩
   · exact hc i z
   · rw[Nd.kids (sl:=[s]) (ps:=[p]) ⟨rfl,hm,.cons hsp .nil,by rw[kn];exact Nat.zero_le _⟩,kn] at h1';cases h1'
theorem OkE.leaf {B:List Int} {h:Str} {s:Str} {p:PyData} (hm:(h,[s])∈tbl) (h1:s≠"one") (h2:s≠"many") (hsp:Shp s p) (hs:(PyData.str h).canLay0=true) (hp:p.canLay0=true) (hd:p.depth=0) (n:Nat) (hm8:bb h w8=false:=by decide +kernel):OkE B (n+1) (.tuple [.str h,p]):=OkE.leafM hm h1 h2 hsp hs hp hd n fun i z=>by rw[ii hm8] at z;cases z
theorem OkE.makeG {B B':List Int} {n:Nat} {h:Str} {sl:List Str} {ps ks:PDs} (hm:(h,sl)∈tbl) (hs:(PyData.str h).canLay0=true) (shp:Paired Shp sl ps) (hk:aD sl ps=ks) (hl:∀ x∈ps,x.canLay0=true) (hd:∀ x∈ps,x.depth≤2*n+1) (kl:ks.length≤8) (ko:∀ x∈ks,OkE B' n x) (hc:∀ i,FrD (n+1) (.tuple (.str h::ps)) i→i∈B):OkE B (n+1) (.tuple (.str h::ps))∧ao (.tuple (.str h::ps))=ks:=by
 have nd:Nd (.tuple (.str h::ps)) h sl ps:=⟨rfl,hm,shp,by rw[hk];exact kl⟩;exact⟨OkE.node nd hs hl hd (fun x hx=>(ko x (by rw[← hk];exact hx)).wf) hc,by rw[nd.kids,hk]⟩
theorem fQ {h:Str} {sl:List Str} {ps ks:PDs} (hm:(h,sl)∈tbl) (shp:Paired Shp sl ps) (hk:aD sl ps=ks) (kl:ks.length≤8):ao (.tuple (.str h::ps))=ks:=by
 have nd:Nd (.tuple (.str h::ps)) h sl ps:=⟨rfl,hm,shp,by rw[hk];exact kl⟩;rw[nd.kids,hk]
theorem OkE.makeM {B:List Int} {n:Nat} {h:Str} {sl:List Str} {ps ks:PDs} (hm:(h,sl)∈tbl) (hs:(PyData.str h).canLay0=true) (shp:Paired Shp sl ps) (hk:aD sl ps=ks) (hl:∀ x∈ps,x.canLay0=true) (hd:∀ x∈ps,x.depth≤2*n+1) (kl:ks.length≤8) (ko:∀ x∈ks,OkE B n x) (hc:∀ i,eJ h ps=some (.int i)→i∈B):OkE B (n+1) (.tuple (.str h::ps))∧ao (.tuple (.str h::ps))=ks :=
 OkE.makeG hm hs shp hk hl hd kl ko fun i z=>by
  rcases z with z | ⟨k,x,h1,h2,_⟩
  · exact hc i z
  · rw[fQ hm shp hk kl] at h1;exact (ko x (mGE h1)).cl i h2
theorem OkE.make {B:List Int} {n:Nat} {h:Str} {sl:List Str} {ps ks:PDs} (hm:(h,sl)∈tbl) (hs:(PyData.str h).canLay0=true) (shp:Paired Shp sl ps) (hk:aD sl ps=ks) (hl:∀ x∈ps,x.canLay0=true) (hd:∀ x∈ps,x.depth≤2*n+1) (kl:ks.length≤8) (ko:∀ x∈ks,OkE B n x) (hm8:bb h w8=false:=by decide +kernel):OkE B (n+1) (.tuple (.str h::ps))∧ao (.tuple (.str h::ps))=ks :=
 OkE.makeM hm hs shp hk hl hd kl ko fun i z=>by rw[ii hm8] at z;cases z
theorem OkE.wide {B B':List Int} {n:Nat} {d:PyData} (h:OkE B n d) (hb:∀ i∈B,i∈B'):OkE B' n d:=⟨h.wf,h.lay,h.dep,fun i z=>hb i (h.cl i z)⟩
def CnL (p:Int→PyData→Int→Prop):Int→PDs→Int→Prop
  | i,[],j=>j=i
  | i,x::r,j=>∃ l,p i x l∧CnL p l r j
def rgI (i:Int) (k:Nat):List Int:=(List.range k).map fun t=>i+((t:Nat):Int)
def CnD:Nat→Int→PyData→Int→Prop
  | 0,_,_,_=>False
  | n+1,i,d,j=>∃ k:Nat,jM d=(rgI i k).map .int∧CnL (CnD n) (i+((k:Nat):Int)) (ao d) j
theorem CnL.imp {p q:Int→PyData→Int→Prop} {ks:PDs} (h:∀ x∈ks,∀ i j,p i x j→q i x j):∀ {i j:Int},CnL p i ks j→CnL q i ks j:=by
 induction ks with
 | nil=>exact fun {i j} z=>z
 | cons x r ih =>
  intro i j z;obtain⟨l,z1,z2⟩:=z;exact⟨l,h x mCS _ _ z1,ih (fun y hy=>h y (mCM _ hy)) z2⟩
theorem CnD.more {n m:Nat} {d:PyData} (hn:n≤m):∀ {i j:Int},CnD n i d j→CnD m i d j:=by
 induction n generalizing m d with
 | zero=>exact fun {i j} z=>z.elim
 | succ n ih =>
  intro i j z;cases m with
  | zero=>lia
  | succ m =>
   obtain⟨k,z1,z2⟩:=z;exact⟨k,z1,z2.imp fun x _ i j=>ih (by lia)⟩
theorem CnL.snoc {p:Int→PyData→Int→Prop} {ks:PDs} {x:PyData} {l j:Int} (hx:p l x j):∀ {i:Int},CnL p i ks l→CnL p i (ks++[x]) j:=by
 induction ks with
 | nil=>intro i z;cases (show l=i from z);exact⟨j,hx,rfl⟩
 | cons y r ih =>
  intro i z;obtain⟨l',z1,z2⟩:=z;exact⟨l',z1,ih z2⟩
theorem CnD.plain {n:Nat} {h:Str} {ps ks:PDs} {i j:Int} (ek:ao (.tuple (.str h::ps))=ks) (z:CnL (CnD n) i ks j) (h1:bb h w2=false:=by decide +kernel) (h2:h≠"fun":=by decide +kernel):CnD (n+1) i (.tuple (.str h::ps)) j:=by
 refine⟨0,?_,?_⟩
 · show bi h ps=[];unfold bi;rw[if_neg (by rw[h1];exact Bool.false_ne_true),if_neg h2]
 · rw[ek,Int.natCast_zero,Int.add_zero];exact z
def Few (j:Int×Int):Prop:=0≤j.1∧j.1+3*max j.2 0≤52
theorem fg {j:Int×Int} (h:Few (j.1+3,j.2)∧0≤j.1):Few j:=⟨h.2,by have:=h.1.2;dsimp only at this;lia⟩
theorem qA {i l:Int} {k:Nat} (h:Few (i+3,l)∧0≤i) (hk:k≤3):Few (i+((k:Nat):Int),l):=⟨by have:=h.2;dsimp only;lia,by have:=h.1.2;dsimp only at *;lia⟩
theorem pz (i:Int) (k:Nat):rgI i (k+1)=rgI i k++[i+((k:Nat):Int)]:=by unfold rgI;rw[List.range_succ,List.map_append];rfl
theorem qF {n:Nat} {h:Str} {a i l j:Int} {d1 d2:PyData} (hm:(h,(["bound","one","one"]:List Str))∈tbl) (e:bb h w2=true) (ha:a=i) (c1:CnD n (i+1) d1 l) (c2:CnD n l d2 j):CnD (n+1) i (.tuple (.str h::[.int a,d1,d2])) j:=by
 subst ha;refine⟨1,?_,?_⟩
 · show bi h [.int a,d1,d2]=_;unfold bi rgI;rw[if_pos e];simp
 · rw[fQ (ks:=[d1,d2]) hm (.cons (iF (by decide +kernel)) (.cons fK (.cons fK .nil))) rfl (by show 2≤8;decide)];exact⟨l,c1,j,c2,rfl⟩
theorem wK {n:Nat} {ts:List (Str×Int×Bool×Int)} {d:PyData} {i j:Int} (hl:ts.length≤3) (hi:(ts.map fun t=>t.2.1)=rgI i ts.length) (c:CnD n (i+((ts.length:Nat):Int)) d j):CnD (n+1) i (.tuple (.str "fun"::[.tuple (ts.map fun t=>.int t.2.1),d])) j:=by
 refine⟨ts.length,?_,?_⟩
 · rw[← hi,List.map_map];show bi "fun" [.tuple (ts.map fun t=>.int t.2.1),d]=_;unfold bi;rw[if_neg (by decide +kernel),if_pos rfl];rfl
 · rw[fQ (sl:=(["bounds","one"]:List Str)) (ks:=[d]) (by decide +kernel) (.cons (vv hl) (.cons fK .nil)) rfl (by show 1≤8;decide)];exact⟨j,c,rfl⟩
theorem wF {i l:Int} (h:Few (i,l)):Few (i,l-1):=⟨h.1,by have:=h.2;dsimp only at *;lia⟩
theorem sZ {i l:Int} (h:Few (i,l)):1≤l-1→Few (i+3,l-1):=fun z=>⟨by have:=h.1;dsimp only at *;lia,by have:=h.2;dsimp only at *;lia⟩
theorem sJ {d:PyData} {h:Str} {sl:List Str} {ps:PDs} (n:Nd d h sl ps) {x:PyData} (e:lD d=some x):∃ i,x=.int i:=by
 obtain⟨rfl,hm,hshp,_⟩:=n;have e':eJ h ps=some x:=e;unfold eJ at e';split at e'
 · rename_i b1
   rcases zW hm b1 with rfl | rfl
   · obtain⟨p0,rfl,s0⟩:=K12.eA hshp;cases e';exact s0.2.1 (by decide +kernel)
   · obtain⟨p0,p1,rfl,s0,_⟩:=K12.cb hshp;cases e';exact s0.2.1 (by decide +kernel)
 · cases e'
theorem fb {α β γ:Type} {f:Nat→α→β} {g:β→γ} {h:α→γ} (e:∀ k x,g (f k x)=h x) (l:List α):(l.mapIdx f).map g=l.map h:=by
 apply List.ext_getElem?;intro i;rw[gEM,List.getElem?_mapIdx,gEM];cases l[i]? with
 | none=>rfl
 | some x=>exact congrArg some (e i x)
abbrev GE:=Nat×PyData×Addr×List (Key×V)
def eX (l:List GE):Nat:=(l.map fun p=>(ca p.1 p.2.1).length).sum
def cX (m:Nat) (a a':Addr) (kvs kvs':List (Key×V)) (ks:PDs):List GE:=ks.mapIdx fun k x=>(m,x,if k+1=ks.length then a' else a,if k+1=ks.length then kvs' else kvs)
theorem dO (l l':List GE):eX (l++l')=eX l+eX l':=by unfold eX;rw[List.map_append,List.sum_append]
theorem ng {m:Nat} {a a':Addr} {kvs kvs':List (Key×V)} {e:PyData}:eX (cX m a a' kvs kvs' (ao e))+1=(ca (m+1) e).length:=by
 unfold eX cX;rw[fb (g:=fun p:GE=>(ca p.1 p.2.1).length) (h:=fun x=>(ca m x).length) (fun _ _=>rfl)];show _=(((ao e).map (ca m)).flatten).length+1;rw[List.length_flatten,List.map_map];rfl
theorem oJ {l:List GE} (h:∀ p∈l,WFd p.1 p.2.1):l.length≤eX l:=by
 induction l with
 | nil=>exact Nat.zero_le _
 | cons p l ih =>
  have h1:=ih fun q hq=>h q (mCM _ hq);have h2:=sh (h p mCS);show l.length+1≤(ca p.1 p.2.1).length+eX l;omega
theorem gN {K:Fg} {H:Hp} {xs:List V} {is:List Int} (h:TDs K H xs (is.map .int)):xs=is.map V.int:=by
 induction is generalizing xs with
 | nil=>cases h;rfl
 | cons i r ih =>
  cases h with
  | cons a b=>rw[ih b,a.int_of];rfl
theorem kH (i:Int) (is:List Int):inV (.int i) (is.map V.int)=decide (i∈is):=by
 induction is with
 | nil=>rfl
 | cons a r ih =>
  show (eqV (.int a) (.int i)||inV (.int i) (r.map V.int))=_;rw[ih];show ((a==i)||decide (i∈r))=_;by_cases e:a=i
  · subst e;simp
  · rw[beq_false_of_ne e];simp[Ne.symm e]
theorem gf (is:List Int):(is.map V.int).all eU=true:=by
 induction is with
 | nil=>rfl
 | cons a r ih=>exact ih
end P10
namespace K12
open PySem L2 P10
theorem dJ.put {H:Hp} {kvs:NKV} {k:NK} {b:Addr} (n:dJ H kvs) (h:cm H b k) (v:V):dJ H (putN kvs k b v):=fun x hx=>by
 unfold putN at hx;split at hx
 · obtain⟨y,hy,e⟩:=List.mem_map.mp hx;have:=n y hy;rw[← e];split
   · exact this
   · exact this
 · rcases mAp.mp hx with hx | hx
   · exact n x hx
   · rw[mSg.mp hx];exact h
section
variable {P:Program} {w:World} {K:Fg} {H H':Hp} {A:Adr} {n:Nat} {m:Str→Option V} {ns:List Int} {k:Int} {B:Nat} {skv:NKV}
theorem SI.updL (x:SI P w K H A n m ns k B skv) {W:Addr} {xs ys:List V} (hW:H W=some (.lst xs)) (h1:W∉A.rs) (h2:W≠A.ro) (h3:KL K A.a ns∨W≠A.a):SI P w K (upd H W (.lst ys)) A n m ns k B skv:=by
 have kp:∀ {b:Addr} {o:HO},H b=some o→(∀ ys,o≠.lst ys)→(upd H W (.lst ys)) b=some o:=fun {b o} h hd=>by
  rw[a9 fun e=>by rw[e,hW] at h;exact hd _ (Option.some.inj h).symm];exact h
 have kt:∀ c zs,H c=some (.tup zs)→(upd H W (.lst ys)) c=some (.tup zs):=fun c zs h=>kp h fun kvs z=>nomatch z;exact
 { pk:=x.pk.put hW h3
   al:=by
     rcases x.al with z | ⟨b,hb⟩
     · exact .inl z
     · by_cases e:A.a=W
       · exact .inr ⟨_,by rw[e];exact pG⟩
       · exact .inr ⟨b,by rw[a9 e];exact hb⟩
   ro:=x.ro
   rv:=by rw[a9 (Ne.symm h2)];exact x.rv
   rw:=fun r hr=>by
     obtain⟨ws,g1,g2⟩:=x.rw r hr;have ne:r≠W:=fun e=>h1 (by rw[← e];exact hr);exact⟨ws,by rw[a9 ne];exact g1,g2⟩
   rne:=x.rne
   ra:=x.ra
   th:=x.th
   tv:=by obtain⟨kv,h1,h2⟩:=x.tv;exact⟨kv,kp h1 (fun kvs z=>nomatch z),h2⟩
   no:=x.no
   nv:=by obtain⟨kv,h1,h2⟩:=x.nv;exact⟨kv,kp h1 (fun kvs z=>nomatch z),h2⟩
   sp:=x.sp
   sv:=kp x.sv fun kvs z=>nomatch z
   sa:=x.sa.keep kt
   sl:=x.sl
   se:=x.se
   ev:=by obtain⟨kv,h1,h2,h3⟩:=x.ev;exact⟨kv,kp h1 (fun kvs z=>nomatch z),h2.keep kt,h3⟩
   ne:=x.ne }
theorem SI.noded (x:SI P w K H A n m ns k B skv) {kv':List (List Key×V)} (hl:kv'.length≤B+1):SI P w K (upd H A.no (.dT kv')) A n m ns k (B+1) skv:=by
 obtain⟨kv0,h0,_⟩:=x.nv;have kp:∀ {b:Addr} {o:HO},H b=some o→(∀ ys,o≠.dT ys)→(upd H A.no (.dT kv')) b=some o:=fun {b o} h hd=>by
  rw[a9 fun e=>by rw[e,h0] at h;exact hd _ (Option.some.inj h).symm];exact h
 have kt:∀ c ys,H c=some (.tup ys)→(upd H A.no (.dT kv')) c=some (.tup ys):=fun c ys h=>kp h fun kvs z=>nomatch z;obtain⟨kvs,hs,hn,hv⟩:=x.pk.st;have sq':SqL K (upd H A.no (.dT kv')) A.a (ns.map V.int):=by
  rcases x.pk.sq with (z | ⟨o,z⟩) | z
  · exact .inl (.inl (kp z fun kvs z=>nomatch z))
  · exact .inl (.inr ⟨o,kp z fun kvs z=>nomatch z⟩)
  · exact .inr z
 exact
 { pk:=⟨⟨kvs,kp hs (fun kvs z=>nomatch z),hn,hv⟩,x.pk.hn,x.pk.sc,x.pk.ne,sq',x.pk.len,x.pk.hk,x.pk.k0⟩
   al:=x.al.imp_right fun ⟨b,hb⟩=>by
     by_cases e:A.a=A.no
     · exact⟨_,by rw[e];exact pG⟩
     · exact⟨b,by rw[a9 e];exact hb⟩
   ro:=x.ro
   rv:=kp x.rv fun kvs z=>nomatch z
   rw:=fun r hr=>by obtain⟨ws,h1,h2⟩:=x.rw r hr;exact⟨ws,kp h1 (fun kvs z=>nomatch z),c_a⟩
   rne:=x.rne
   ra:=x.ra
   th:=x.th
   tv:=by
     obtain⟨kv,h1,h2⟩:=x.tv;by_cases e:A.th=A.no
     · exact⟨kv',by rw[e];exact pG,hl⟩
     · exact⟨kv,by rw[a9 e];exact h1,c_a⟩
   no:=x.no
   nv:=⟨kv',pG,hl⟩
   sp:=x.sp
   sv:=kp x.sv fun kvs z=>nomatch z
   sa:=x.sa.keep kt
   sl:=by have:=x.sl;exact c_a
   se:=x.se
   ev:=by obtain⟨kv,h1,h2,h3⟩:=x.ev;exact⟨kv,kp h1 (fun kvs z=>nomatch z),h2.keep kt,c_a⟩
   ne:=x.ne }
theorem SI.seend (x:SI P w K H A n m ns k B skv) {kv':NKV} (na:dJ H kv') (hl:kv'.length≤B+1):SI P w K (upd H A.se (DN P w A.se kv')) A n m ns k (B+1) skv:=by
 obtain⟨kv0,h0,_⟩:=x.ev;have kp:∀ {b:Addr} {o:HO},H b=some o→(∀ ys,o≠.ext ys)→(upd H A.se (DN P w A.se kv')) b=some o:=fun {b o} h hd=>by
  rw[a9 fun e=>by rw[e,h0] at h;exact hd _ (Option.some.inj h).symm];exact h
 have kt:∀ c ys,H c=some (.tup ys)→(upd H A.se (DN P w A.se kv')) c=some (.tup ys):=fun c ys h=>kp h fun kvs z=>nomatch z;obtain⟨kvs,hs,hn,hv⟩:=x.pk.st;have sq':SqL K (upd H A.se (DN P w A.se kv')) A.a (ns.map V.int):=by
  rcases x.pk.sq with (z | ⟨o,z⟩) | z
  · exact .inl (.inl (kp z fun kvs z=>nomatch z))
  · exact .inl (.inr ⟨o,kp z fun kvs z=>nomatch z⟩)
  · exact .inr z
 exact
 { pk:=⟨⟨kvs,kp hs (fun kvs z=>nomatch z),hn,hv⟩,x.pk.hn,x.pk.sc,x.pk.ne,sq',x.pk.len,x.pk.hk,x.pk.k0⟩
   al:=x.al.imp_right fun ⟨b,hb⟩=>by
     by_cases e:A.a=A.se
     · exact⟨_,by rw[e];exact pG⟩
     · exact⟨b,by rw[a9 e];exact hb⟩
   ro:=x.ro
   rv:=kp x.rv fun kvs z=>nomatch z
   rw:=fun r hr=>by obtain⟨ws,h1,h2⟩:=x.rw r hr;exact⟨ws,kp h1 (fun kvs z=>nomatch z),c_a⟩
   rne:=x.rne
   ra:=x.ra
   th:=x.th
   tv:=by obtain⟨kv,h1,h2⟩:=x.tv;exact⟨kv,kp h1 (fun kvs z=>nomatch z),c_a⟩
   no:=x.no
   nv:=by obtain⟨kv,h1,h2⟩:=x.nv;exact⟨kv,kp h1 (fun kvs z=>nomatch z),c_a⟩
   sp:=x.sp
   sv:=by rw[a9 x.ne];exact x.sv
   sa:=x.sa.keep kt
   sl:=by have:=x.sl;exact c_a
   se:=x.se
   ev:=⟨kv',pG,na.keep kt,hl⟩
   ne:=x.ne }
theorem SI.spanned (x:SI P w K H A n m ns k B skv) {kv':NKV} (na:dJ H kv') (hl:kv'.length≤B+1):SI P w K (upd H A.sp (DN P w A.sp kv')) A n m ns k (B+1) kv':=by
 have h0:=x.sv;have kp:∀ {b:Addr} {o:HO},H b=some o→(∀ ys,o≠.ext ys)→(upd H A.sp (DN P w A.sp kv')) b=some o:=fun {b o} h hd=>by
  rw[a9 fun e=>by rw[e,h0] at h;exact hd _ (Option.some.inj h).symm];exact h
 have kt:∀ c ys,H c=some (.tup ys)→(upd H A.sp (DN P w A.sp kv')) c=some (.tup ys):=fun c ys h=>kp h fun kvs z=>nomatch z;obtain⟨kvs,hs,hn,hv⟩:=x.pk.st;have sq':SqL K (upd H A.sp (DN P w A.sp kv')) A.a (ns.map V.int):=by
  rcases x.pk.sq with (z | ⟨o,z⟩) | z
  · exact .inl (.inl (kp z fun kvs z=>nomatch z))
  · exact .inl (.inr ⟨o,kp z fun kvs z=>nomatch z⟩)
  · exact .inr z
 exact
 { pk:=⟨⟨kvs,kp hs (fun kvs z=>nomatch z),hn,hv⟩,x.pk.hn,x.pk.sc,x.pk.ne,sq',x.pk.len,x.pk.hk,x.pk.k0⟩
   al:=x.al.imp_right fun ⟨b,hb⟩=>by
     by_cases e:A.a=A.sp
     · exact⟨_,by rw[e];exact pG⟩
     · exact⟨b,by rw[a9 e];exact hb⟩
   ro:=x.ro
   rv:=kp x.rv fun kvs z=>nomatch z
   rw:=fun r hr=>by obtain⟨ws,h1,h2⟩:=x.rw r hr;exact⟨ws,kp h1 (fun kvs z=>nomatch z),c_a⟩
   rne:=x.rne
   ra:=x.ra
   th:=x.th
   tv:=by obtain⟨kv,h1,h2⟩:=x.tv;exact⟨kv,kp h1 (fun kvs z=>nomatch z),c_a⟩
   no:=x.no
   nv:=by obtain⟨kv,h1,h2⟩:=x.nv;exact⟨kv,kp h1 (fun kvs z=>nomatch z),c_a⟩
   sp:=x.sp
   sv:=pG
   sa:=na.keep kt
   sl:=hl
   se:=x.se
   ev:=by obtain⟨kv,h1,h2,h3⟩:=x.ev;exact⟨kv,by rw[a9 (Ne.symm x.ne)];exact h1,h2.keep kt,c_a⟩
   ne:=x.ne }
theorem ac.no {o:HO}:ac A H (upd H A.no o):=fun b u _ _ _ h _ _ e=>by rw[a9 h];exact e
theorem ac.sp {o:HO}:ac A H (upd H A.sp o):=fun b u _ _ _ _ h _ e=>by rw[a9 h];exact e
theorem ac.se {o:HO}:ac A H (upd H A.se o):=fun b u _ _ _ _ _ h e=>by rw[a9 h];exact e
theorem ac.put {W:Addr} {o:HO} (kp:ac A H H') (h:H W=none):ac A H (upd H' W o):=fun b u h1 h2 h3 h4 h5 h6 e=>by
 rw[a9 (bh e h)];exact kp b u h1 h2 h3 h4 h5 h6 e
end
structure Fr (K:Fg) (C:Ctx) (W:Addr):Prop where
  rs:W∉C.A.rs
  ro:W≠C.A.ro
  fo:W≠C.fo
  inn:∀ y∈C.fl,W≠y.2.inner
  al:KL K C.A.a C.ns∨W≠C.A.a
def fV (H:Hp) (a:Addr) (path:List Nat):Prop:=H a=some (.tup (path.map fun n=>V.int ((n:Nat):Int)))
section
variable {P:Program} {w:World} {K:Fg} {H H':Hp} {C:Ctx} {N:Nat} {skv:SK}
theorem SX.fr (x:SX P w K H C N skv) {W:Addr} (h:H W=none):Fr K C W:=by
 obtain⟨⟨m,k,B,si,r⟩,rr,fe⟩:=x;have ne:∀ {b:Addr} {o:HO},H b=some o→W≠b:=fun {b o} hb e=>by rw[e,hb] at h;cases h
 refine⟨si.new h,ne si.rv,ne fe.fv,fun y hy=>?_,si.al.imp_right fun ⟨b,hb⟩=>ne hb⟩;exact ne (fe.fs y hy).inn
theorem SX.updL (x:SX P w K H C N skv) {W:Addr} (f:Fr K C W) {xs ys:List V} (hW:H W=some (.lst xs)):SX P w K (upd H W (.lst ys)) C N skv:=by
 obtain⟨⟨m,k,B,si,r⟩,rr,fe⟩:=x;refine⟨⟨m,k,B,si.updL hW f.rs f.ro f.al,r⟩,rr,⟨by rw[a9 (Ne.symm f.fo)];exact fe.fv,fun y hy=>?_,fe.le,fe.nfo,fe.nf,fe.inn⟩⟩;obtain⟨⟨mf,⟨kvs,h1,h2⟩,r⟩,i⟩:=fe.fs y hy;exact⟨⟨mf,⟨kvs,by rw[a9 fun e=>by rw[e,hW] at h1;cases h1];exact h1,h2⟩,r⟩,by rw[a9 (Ne.symm (f.inn y hy))];exact i⟩
theorem SX.noded (x:SX P w K H C N skv) {t:Addr} {p i:Int} (ht:H t=some (.tup [.int p,.int i])) (v:V) (hN:N<900000):∃ H',dk H C.A.no (.ref t) v H'∧ac C.A H H'∧SX P w K H' C (N+1) skv:=by
 obtain⟨⟨m,k,B,si,hk,hB,sm⟩,rr,fe⟩:=x;obtain⟨kv,h1,h2⟩:=si.nv;have hz0:(1000000:Nat)<sizeLine:=by decide
 have hl:=bq kv [Sum.inl p,Sum.inl i] v;refine⟨_,dk.t (k:=[Sum.inl p,Sum.inl i]) h1 ht (oo),ac.no,⟨⟨m,k,B+1,si.noded (by lia),ou,lT,sm⟩,rr,fe.keep si ac.no⟩⟩
theorem fV.node {a b:Addr} {path:List Nat} (h:fV H a path) {fn:Nat} (hb:H b=some (.tup [.int ((fn:Nat):Int),.ref a])):cm H b (nk fn path):=by
 refine⟨a,hb,?_⟩;rw[show ((nk fn path).2.map kV)=path.map fun n=>V.int ((n:Nat):Int) by unfold nk;rw[List.map_map];rfl];exact h
theorem SX.seend (x:SX P w K H C N skv) {b:Addr} {k:NK} (hb:cm H b k) (v:V) (hN:N<900000):∃ kvs,H C.A.se=some (DN P w C.A.se kvs)∧dJ H kvs∧kvs.length<sizeLine∧ac C.A H (upd H C.A.se (DN P w C.A.se (putN kvs k b v)))∧SX P w K (upd H C.A.se (DN P w C.A.se (putN kvs k b v))) C (N+1) skv:=by
 obtain⟨⟨m,k',B,si,hk,hB,sm⟩,rr,fe⟩:=x;obtain⟨kv,h1,h2,h3⟩:=si.ev;have hz0:(1000000:Nat)<sizeLine:=by decide
 have hl:=dZ kv k b v;exact⟨kv,h1,h2,oo,ac.se,⟨⟨m,k',B+1,si.seend (dJ.put h2 hb v) (by lia),ou,lT,sm⟩,rr,fe.keep si ac.se⟩⟩
theorem SX.spanned (x:SX P w K H C N skv) {b:Addr} {k:NK} (hb:cm H b k) (v:V) (hN:N<900000):H C.A.sp=some (DN P w C.A.sp skv.1)∧dJ H skv.1∧skv.1.length<sizeLine∧ac C.A H (upd H C.A.sp (DN P w C.A.sp (putN skv.1 k b v)))∧SX P w K (upd H C.A.sp (DN P w C.A.sp (putN skv.1 k b v))) C (N+1) (putN skv.1 k b v,skv.2):=by
 obtain⟨⟨m,k',B,si,hk,hB,sm⟩,rr,fe⟩:=x;have hz0:(1000000:Nat)<sizeLine:=by decide
 have hl:=dZ skv.1 k b v;have hs:=si.sl;exact⟨si.sv,si.sa,oo,ac.sp,⟨⟨m,k',B+1,si.spanned (dJ.put si.sa hb v) (by lia),ou,lT,sm⟩,rr,fe.keep si ac.sp⟩⟩
theorem SX.rd (x:SX P w K H C N skv):bR H C.A.s (.str "part") (some (.int ((C.p:Nat):Int)))∧bR H C.A.s (.str "function") (some (.int ((C.fn:Nat):Int)))∧bR H C.A.s (.str "rows") (some (.ref C.A.ro))∧bR H C.A.s (.str "nodes") (some (.ref C.A.no))∧bR H C.A.s (.str "seen") (some (.ref C.A.se))∧bR H C.A.s (.str "spans") (some (.ref C.A.sp))∧H C.A.ro=some (.lst (C.A.rs.map V.ref))∧atI (C.A.rs.map V.ref) ((C.p:Nat):Int)=some (.ref C.r)∧∃ ws:List Str,H C.r=some (.lst (ws.map V.str)):=by
 obtain⟨⟨m,k',B,si,hk,hB,sm⟩,rr,fe⟩:=x;obtain⟨ws,h1,_⟩:=si.rw C.r (mGE rr);exact⟨si.pk.st.get sm.pt,si.pk.st.get sm.fn,si.pk.st.get si.ro,si.pk.st.get si.no,si.pk.st.get si.se,si.pk.st.get si.sp,si.rv,pJ (by rw[gEM,rr];rfl),ws,h1⟩
end
theorem wM {K:Fg} {H:Hp} {a b:Addr} {xs ys:List V} {Q:VK} (ha:H a=some (.tup xs)) (hb:H b=some (.tup ys)) (hy:ys≠[]) (hz:xs.length+ys.length≤100000)
 (q:∀ p H',ak H H'→H' p=some (.tup (xs++ys))→Q (.ref p) H'):kq K (.ref a) (.ref b) H Q:=by
 have hz0:(100000:Nat)<sizeLine:=by decide
 refine⟨a,b,xs,ys,rfl,rfl,SqT.of ha,SqT.of hb,ix,fun e=>?_,fun _ e=>absurd e hy,fun _ _ p hp=>?_⟩
 · subst e;exact q b H (ak.refl H) hb
 · exact q p _ (smu hp) pG
theorem fS {K:Fg} {H:Hp} {a b:Addr} {path:List Nat} {i:Int} {j:Nat} {Q:VK} (ha:fV H a path) (hb:H b=some (.tup [.int i])) (hi:i=((j:Nat):Int)) (hz:path.length≤1000)
 (q:∀ p H',ak H H'→fV H' p (path++[j])→Q (.ref p) H'):kq K (.ref a) (.ref b) H Q:=by
 subst hi;refine wM ha hb (by simp) (by simp;exact ix) fun p H' s hp=>q p H' s ?_;unfold fV;rw[hp,List.map_append];rfl
theorem sO {α:Type}:∀ {l:List α},l.length=5→∃ a b c d e,l=[a,b,c,d,e]:=by
 intro l h;cases l with
 | nil=>cases h
 | cons a r=>obtain⟨b,c,d,e,rfl⟩:=nR (Nat.succ.inj h);exact⟨a,b,c,d,e,rfl⟩
theorem BV {α:Type}:∀ {l:List α},l.length=6→∃ a b c d e f,l=[a,b,c,d,e,f]:=by
 intro l h;cases l with
 | nil=>cases h
 | cons a r=>obtain⟨b,c,d,e,f,rfl⟩:=sO (Nat.succ.inj h);exact⟨a,b,c,d,e,f,rfl⟩
section
variable (P:Program) (w:World) (K:Fg)
def oD (C:Ctx) (sn:List Int) (path:List Nat) (dp N':Nat) (skv:SK) (H:Hp) (Q:VK):Prop:=∀ v d H' skv',ac C.A H H'→SX P w K H' C N' skv'→TD K H' v d→OkE sn dp d→bv C.fn path (AtP d) skv skv'→CnD dp skv.2.1 d skv'.2.1→Few skv'.2→Q v H'
structure Pre (H:Hp) (C:Ctx) (N:Nat) (skv:SK) (pa:Addr) (path:List Nat) (S:Addr) (sn:List Int) (dp:Nat):Prop where
  x:SX P w K H C N skv
  pv:fV H pa path
  pl:path.length+dp≤1000
  se:SeV K H C S sn
  sl:sn.length+3*dp≤100
inductive uI (n:Nat) (vs:List V) (H:Hp) (Q:VK):Prop
  | mk (C:_) (N:_) (skv:_) (pa:_) (path:_) (S:_) (sn:_) (dp:_) (z:_) (g0_:vs=[.ref C.A.s,.ref pa,.ref S,.int z]) (g1_:z=((dp:Nat):Int)) (g2_:Pre P w K H C N skv pa path S sn dp) (gF_:Few skv.2) (g3_:dp<n) (g4_:N+cst dp<900000) (g5_:oD P w K C sn path (dp+1) (N+cst dp) skv H Q):uI n vs H Q
def kc (n:Nat):Sp:=fun vs H Q _=>uI P w K n vs H Q
inductive uD (n:Nat) (vs:List V) (H:Hp) (Q:VK):Prop
  | mk (C:_) (N:_) (skv:_) (pa:_) (path:_) (S:_) (sn:_) (dp:_) (z:_) (g0_:vs=[.ref C.A.s,.ref pa,.ref S,.int z]) (g1_:z=((dp:Nat):Int)) (g2_:Pre P w K H C N skv pa path S sn dp) (gF_:Few skv.2) (gG_:1≤skv.2.2→Few (skv.2.1+3,skv.2.2)) (g3_:dp<n+1) (g4_:N+(cst dp-3)<900000) (g5_:oD P w K C sn path (dp+1) (N+(cst dp-3)) skv H Q):uD n vs H Q
def xN (n:Nat):Sp:=fun vs H Q _=>uD P w K n vs H Q
inductive uM (n:Nat) (vs:List V) (H:Hp) (Q:VK):Prop
  | mk (C:_) (N:_) (skv:_) (pa:_) (path:_) (S:_) (sn:_) (dp:_) (z:_) (g0_:vs=[.ref C.A.s,.ref pa,.ref S,.int z]) (g1_:z=((dp+1:Nat):Int)) (g2_:Pre P w K H C N skv pa path S sn (dp+1)) (gF_:Few (skv.2.1+3,skv.2.2)∧0≤skv.2.1) (g3_:dp<n) (g4_:N+8*cst dp+36<900000) (g5_:oD P w K C sn path (dp+2) (N+8*cst dp+36) skv H Q):uM n vs H Q
def xT (n:Nat):Sp:=fun vs H Q _=>uM P w K n vs H Q
inductive ur (n:Nat) (vs:List V) (H:Hp) (Q:VK):Prop
  | mk (C:_) (N:_) (skv:_) (pa:_) (path:_) (S:_) (sn:_) (dp:_) (z:_) (g0_:vs=[.ref C.A.s,.ref pa,.ref S,.int z]) (g1_:z=((dp+1:Nat):Int)) (g2_:Pre P w K H C N skv pa path S sn (dp+1)) (gF_:Few (skv.2.1+3,skv.2.2)∧0≤skv.2.1) (g3_:dp<n) (g4_:N+8*cst dp+36<900000) (g5_:e9 C "record"≠[]) (g6_:oD P w K C sn path (dp+2) (N+8*cst dp+36) skv H Q):ur n vs H Q
def xI (n:Nat):Sp:=fun vs H Q _=>ur P w K n vs H Q
inductive ui (W:Int→Prop) (n:Nat) (vs:List V) (H:Hp) (Q:VK):Prop
  | mk (C:_) (N:_) (skv:_) (pa:_) (path:_) (S:_) (sn:_) (dp:_) (z:_) (y:_) (g0_:vs=[.ref C.A.s,.ref pa,.ref S,.int z,.int y]) (g1_:z=((dp+1:Nat):Int)) (g2_:W y) (g3_:Pre P w K H C N skv pa path S sn (dp+1)) (gF_:Few (skv.2.1+3,skv.2.2)∧0≤skv.2.1) (g4_:dp<n) (g5_:N+8*cst dp+36<900000) (g6_:oD P w K C sn path (dp+2) (N+8*cst dp+36) skv H Q):ui W n vs H Q
def nD (W:Int→Prop) (n:Nat):Sp:=fun vs H Q _=>ui P w K W n vs H Q
inductive um (n:Nat) (vs:List V) (H:Hp) (Q:VK):Prop
  | mk (C:_) (N:_) (skv:_) (pa:_) (path:_) (S:_) (sn:_) (dp:_) (z:_) (y:_) (many:_) (g0_:vs=[.ref C.A.s,.ref pa,.ref S,.int z,.int 0,.int y]) (g1_:z=((dp+1:Nat):Int)) (g2_:y=((many:Nat):Int)) (g3_:Pre P w K H C N skv pa path S sn (dp+1)) (gF_:Few skv.2) (g4_:dp<n) (g5_:many≤8) (g6_:N+many*cst dp<900000) (g7_:∀ v ds H' skv',ac C.A H H'→SX P w K H' C (N+many*cst dp) skv'→TD K H' v (.tuple ds)→ds.length=many→(∀ x∈ds,OkE sn (dp+1) x)→bv C.fn path (eV ds) skv skv'→CnL (CnD (dp+1)) skv.2.1 ds skv'.2.1→Few skv'.2→Q v H'):um n vs H Q
def oU (n:Nat):Sp:=fun vs H Q _=>um P w K n vs H Q
end
section
variable {P:Program} {w:World} {K:Fg} {mg:SOV} {base:Heap}
theorem Pre.keep {H H':Hp} {C:Ctx} {N N':Nat} {skv skv':SK} {pa S:Addr} {path:List Nat} {sn:List Int} {dp:Nat} (p:Pre P w K H C N skv pa path S sn dp) (kp:ac C.A H H') (x':SX P w K H' C N' skv'):Pre P w K H' C N' skv' pa path S sn dp :=
 ⟨x',p.x.kT kp p.pv,p.pl,p.se.keep p.x kp,p.sl⟩
theorem Pre.same {H H':Hp} {C:Ctx} {N:Nat} {skv:SK} {pa S:Addr} {path:List Nat} {sn:List Int} {dp:Nat} (p:Pre P w K H C N skv pa path S sn dp) (k:ak H H'):Pre P w K H' C N skv pa path S sn dp:=p.keep (ac.of k) (p.x.same k)
theorem eV.more {ds es:PDs} {q:List Nat} (h:eV ds q):eV (ds++es) q:=by
 obtain⟨i,r,x,e,h1,h2⟩:=h;exact⟨i,r,x,e,by rw[List.getElem?_append_left (gES.mp h1).1];exact h1,h2⟩
abbrev sSo:Stmt:=top 27
abbrev dN:List Str:=["_law_state","_law_path","_law_seen_here","_law_deep"]
abbrev jq:List Str:=["_law_state","_law_path","_law_seen_here","_law_deep","_law_way"]
abbrev nH:List Str:=["_law_state","_law_path","_law_seen_here","_law_deep","_law_first","_law_many"]
theorem y6:aB ["_law_state","_law_path","_law_seen_here","_law_deep","_law_first","_law_many","_law_found","_law_k"] nH (a7 sSo):=fsM
theorem yZ {n:Nat} (D:Def K mg "_law_some" sSo) (T:Blt mg) (c7:Fn P w K mg base "_law_expr" (5*n+5) dN (kc P w K n)):Fn P w K mg base "_law_some" (5*n+6) nH (oU P w K n):=by
 refine D.fn y6 (fun vs H Q E h=>?_) (fun _ _ _ _ _ _ us hl=>by obtain⟨a,b,c,d,e,f,rfl⟩:=BV hl;rfl) (fun f cdv A outer s' H vs Q E hr h=>?_)
 · obtain⟨C,N,skv,pa,path,S,sn,dp,z,y,many,rfl,_⟩:=h;rfl
 · obtain⟨C,N,skv,pa,path,S,sn,dp,z,y,many,rfl,rfl,rfl,pre,few,hdp,hm8,hN,q⟩:=h;have nd:=y6.nd;have hz0:(1000000:Nat)<sizeLine:=by decide
   have hpl:=pre.pl;refine⟨_,(pE (pN (i:=6) nd rfl (Or.inl rfl) (ag pC))
 (pE (bp PassesOwn.never rfl (bz rfl T.range (pA (pv 5) pC)) (ae (i:=7) nd rfl (Or.inl rfl))
 (pI (am (aX (pv 6) (pA (aa c7 (hr.mono (eM)) rfl (pA (pv 0) (pA (aC cR (pv 1) (au (pA (aC bI (pv 4) (pv 7)) pC))) (pA (pv 2) (pA (aC ck (pv 3) pH) pC))))) pC)))))
 (pI (az (cg T.tuple (pA (pv 6) pC)))))),?_⟩
   dsimp only[bJ,bN,bM];refine a0 fun Ea Ce=>?_;refine⟨ef,fun W hW=>?_⟩;refine Ce _ _ (a0 fun E9 Cd=>?_);have k1:=smu (o:=HO.lst []) hW;have hW1:(upd H W (.lst [])) W=some (.lst []):=pG;have fr:=pre.x.fr hW;generalize upd H W (.lst [])=H1 at k1 hW1 ⊢;have pre1:=pre.same k1;refine⟨_,rfl,_,rfl,oq,tD,?_⟩;rw[show ((many:Nat):Int).toNat=many from Int.toNat_natCast _];show aw _ _ _ _ _ _;refine aw.byN (b4 (n:=many)) (fun i σ Hi=>ac C.A H Hi∧(∃ skv' zs ds,Pre P w K Hi C (N+i*cst dp) skv' pa path S sn (dp+1)∧Hi W=some (.lst zs)∧TDs K Hi zs ds∧ds.length=i∧(∀ x∈ds,OkE sn (dp+1) x)∧bv C.fn path (eV ds) skv skv'∧CnL (CnD (dp+1)) skv.2.1 ds skv'.2.1∧Few skv'.2)∧∃ x7,σ=[some (.ref C.A.s),some (.ref pa),some (.ref S),some (.int ((dp+1:Nat):Int)),some (.int 0),some (.int ((many:Nat):Int)),some (.ref W),x7])
    ⟨ac.of k1,⟨skv,[],[],by rw[Nat.zero_mul];exact pre1,hW1,.nil,rfl,by simp,bv.refl _ _ _ _,rfl,few⟩,_,rfl⟩ (fun _ _ _ _ _=>trivial) ?_ ?_
   · rintro i x σ Hi N_ B_ hN_ hB_ hx ⟨kp,⟨skv',zs,ds,prei,hWi,hts,hdl,hok,hgr,hcn,hfw⟩,x7,rfl⟩;have hic:i<many:=by have:=(gES.mp hx).1;rw[bm] at this;exact this
     obtain rfl:=ei hx;have hmul:(i+1)*cst dp≤many*cst dp:=Nat.mul_le_mul_right _ hic;have hmul1:(i+1)*cst dp=i*cst dp+cst dp:=Nat.succ_mul _ _;refine⟨_,rfl,.inl ⟨rfl,_,SqL.of hWi⟩,_,rfl,_,rfl,_,rfl,_,rfl,_,_,rfl,rfl,eW,fun t ht=>?_⟩;have k2:=smu (o:=HO.tup [V.int (0+((i:Nat):Int))]) ht;have ht2:(upd Hi t (.tup [V.int (0+((i:Nat):Int))])) t=some (.tup [V.int (0+((i:Nat):Int))]):=pG;generalize upd Hi t (.tup [V.int (0+((i:Nat):Int))])=H2 at k2 ht2 ⊢;have pre2:=prei.same k2;refine fS (j:=i) pre2.pv ht2 (by lia) (b_p) fun p3 H3 k3 hp3=>?_;have pre3:=pre2.same k3;have kp3:=kp.trans (ac.of (k2.trans k3));refine⟨_,rfl,_,rfl,_,_,rfl,rfl,C,_,skv',p3,path++[i],S,sn,dp,_,rfl,c_h,⟨pre3.x,hp3,by rw[lAp];show path.length+1+dp≤1000;exact c_g,pre3.se,by have:=pre3.sl;exact c_s⟩,hfw,hdp,by lia,fun v d H4 skv4 kp4 x4 tv ok gr cn fw=>?_⟩;have hW4:=pre3.x.kL kp4 (k3 _ _ (k2 _ _ hWi)) fr.rs;have zl:=hts.length;have pre4:=pre3.keep kp4 x4;refine⟨W,_,_,rfl,rfl,hW4,by lia,hN_ _ _ ⟨(kp3.trans kp4).put hW,⟨skv4,zs++[v],ds++[d],?_,pG,?_,by simp[hdl],fun y hy=>?_,?_,hcn.snoc cn,fw⟩,_,rfl⟩⟩
     · have x5:=x4.updL (ys:=zs++[v]) fr hW4;rw[hmul1,← Nat.add_assoc];obtain⟨xs',sv',g1,g2,g3,g4⟩:=pre4.se;have hSW:S≠W:=fun e=>by
        obtain⟨_,_,g,_⟩:=pre.se;rw[e,hW] at g;cases g
       exact⟨x5,by unfold fV;rw[a9 fun e=>by have:=pre4.pv;unfold fV at this;rw[e,hW4] at this;cases this];exact pre4.pv,pre4.pl,⟨xs',sv',by rw[a9 hSW];exact g1,g2.tk (bC (.inr ⟨_,hW4⟩)),g3,g4⟩,pre4.sl⟩
     · exact (TDs.snoc (hts.tk (pre3.x.tk kp4|>fun t=>(k2.trans k3).tk.trans t)) tv).tk (bC (.inr ⟨_,hW4⟩))
     · rcases mAp.mp hy with hy | hy
       · exact hok y hy
       · rw[mSg.mp hy];exact ok
     · refine (hgr.imp fun q h=>eV.more h).trans ?_;exact bv.kid gr (by rw[List.getElem?_append_right (CM),hdl];simp)
   · rintro σ Hi ⟨kp,⟨skv',zs,ds,prei,hWi,hts,hdl,hok,hgr,hcn,hfw⟩,x7,rfl⟩;refine Cd _ _ ?_;rw[bm] at hdl prei;refine⟨_,rfl,W,zs,rfl,.inl ⟨SqL.of hWi,fun l hl=>?_⟩⟩;have k5:=smu (o:=HO.tup zs) hl;exact q _ ds _ skv' (kp.trans (ac.of k5)) (prei.x.same k5) (.tup (SqT.of pG) (hts.same k5)) hdl hok hgr hcn hfw
end
end K12
namespace P10
open PySem L2
theorem oC {α:Type} {p:α→Prop} {a:α} (ha:p a):∀ x∈[a],p x:=fun x hx=>by rw[mSg.mp hx];exact ha
theorem iJ {α:Type} {p:α→Prop} {a b:α} (ha:p a) (hb:p b):∀ x∈[a,b],p x:=fun x hx=>by
 rcases List.mem_cons.mp hx with rfl | hx
 · exact ha
 · exact oC hb x hx
theorem tK {α:Type} {p:α→Prop} {a b c:α} (ha:p a) (hb:p b) (hc:p c):∀ x∈[a,b,c],p x:=fun x hx=>by
 rcases List.mem_cons.mp hx with rfl | hx
 · exact ha
 · exact iJ hb hc x hx
theorem bv.node {fn:Nat} {path:List Nat} {d:PyData} {ds:PDs} {a b:K12.SK} (ek:ao d=ds) (g:bv fn path (eV ds) a b):bv fn path (AtP d) a b:=by
 rw[← ek] at g;exact g.up
theorem OkE.dep1 {B:List Int} {n:Nat} {d:PyData} (h:OkE B n d):d.depth≤2*n+1:=by have:=h.dep;exact c_a
theorem xk {h:Str} (e:bb h w2=true):bb h w8=false:=by
 have:∀ x∈w2,bb x w8=false:=by decide +kernel
 exact this h (by unfold bb at e;simpa using e)
theorem qG {B:List Int} {n:Nat} {h:Str} {i:Int} {d1 d2:PyData} (hm:(h,(["bound","one","one"]:List Str))∈tbl) (e:bb h w2=true) (ok1:OkE B n d1) (ok2:OkE (B++[i]) n d2):∀ j,FrD (n+1) (.tuple (.str h::[.int i,d1,d2])) j→j∈B:=fun j z=>by
 rcases z with z | ⟨k,x,h1,h2,h3⟩
 · have z':eJ h [.int i,d1,d2]=some (.int j):=z;rw[ii (xk e)] at z';cases z'
 · rw[fQ (ks:=[d1,d2]) hm (.cons (iF (by decide +kernel)) (.cons fK (.cons fK .nil))) rfl (by show 2≤8;decide)] at h1 h3
   rcases (show k=0∨k=1 by have:=(gES.mp h1).1;simp at this;omega) with rfl | rfl
   · cases h1;exact ok1.cl j h2
   · cases h1;have h4:PyData.int j∉bi h [.int i,d1,d2]:=h3 rfl;unfold bi at h4;rw[if_pos e] at h4
     rcases mAp.mp (ok2.cl j h2) with z | z
     · exact z
     · exact absurd (by rw[mSg.mp z];exact mSg.mpr rfl) h4
end P10
namespace K12
open PySem L2 P10
section
variable {P:Program} {w:World} {K:Fg} {mg:SOV} {base:Heap}
theorem SeV.cat {H:Hp} {C:Ctx} {N:Nat} {skv:SK} {W:Addr} {sn:List Int} {xs ys:List V} {sv tv:List (Str×Int×Bool×Int)} (x:SX P w K H C N skv) (hS:TDs K H xs (sv.map dSe)) (hT:TDs K H ys (tv.map dSe)) (h1:(sv.map fun t=>t.2.1)=sn) (hW:H W=none):SeV K (upd H W (.lst (xs++ys))) C W (sn++tv.map fun t=>t.2.1):=by
 have k:=smu (o:=HO.lst (xs++ys)) hW;refine⟨_,sv++tv,pG,?_,by rw[List.map_append,h1],x.new hW⟩;rw[List.map_append];exact (hS.same k).app (hT.same k)
abbrev sBo:Stmt:=top 28
theorem yy:aB ["_law_state","_law_path","_law_seen_here","_law_deep","_law_head","_law_local","_law_thing","_law_body"] dN (a7 sBo):=fsM
theorem zH {n:Nat} (D:Def K mg "_law_bound" sBo) (T:Blt mg) (ab:Fn P w K mg base "_law_pick" 2 ["_law_state","_law_many"] (fI P w K)) (ah:Fn P w K mg base "_law_lay" 1 ["_law_state","_law_words"] (fJ P w K)) (c6:Fn P w K mg base "_law_name" 3 ["_law_state"] (mq P w K)) (c9:Fn P w K mg base "_law_bind" 2 ["_law_state","_law_name_here","_law_is_var"] (iR P w K)) (c7:Fn P w K mg base "_law_expr" (5*n+5) dN (kc P w K n)):Fn P w K mg base "_law_bound" (5*n+8) dN (xT P w K n):=by
 refine D.fn yy (fun vs H Q E h=>?_) (fun _ _ _ _ _ _ us hl=>by obtain⟨a,b,c,d,rfl⟩:=nR hl;rfl) (fun f cdv A outer s' H vs Q E hr h=>?_)
 · obtain⟨C,N,skv,pa,path,S,sn,dp,z,rfl,_⟩:=h;rfl
 · obtain⟨C,N,skv,pa,path,S,sn,dp,z,rfl,rfl,pre,few,hdp,hN,q⟩:=h;have nd:=yy.nd;have hz0:(1000000:Nat)<sizeLine:=by decide
   have hpl:=pre.pl;have hsl:=pre.sl;have hc:=dG dp;refine⟨_,(pE (pN (i:=4) nd rfl (Or.inl rfl) (aq aH (ag (pA pD (pA pD (pA pD pC)))) (aa ab (hr.mono (c_f)) rfl (pA (pv 0) (pA pH pC))) (fun _ _=>rfl))) (pE (am (aa ah (hr.mono (c_f)) rfl (pA (pv 0) (pA (ag (pA pD (pA (pv 4) pC))) pC)))) (pE (pN (i:=5) nd rfl (Or.inl rfl) (aa c9 (hr.mono (c_f)) rfl (pA (pv 0) (pA (aa c6 (hr.mono (c_f)) rfl (pA (pv 0) pC)) (pA (mD aV (pv 4) pD (pP _)) pC))))) (pE (pN (i:=6) nd rfl (Or.inl rfl) (aa c7 (hr.mono (eM)) rfl (pA (pv 0) (pA (aC cR (pv 1) (au (pA pH pC))) (pA (pv 2) (pA (aC ck (pv 3) pH) pC)))))) (pE (pN (i:=7) nd rfl (Or.inl rfl) (aa c7 (hr.mono (eM)) rfl (pA (pv 0) (pA (aC cR (pv 1) (au (pA pH pC))) (pA (aC fL (pv 2) (ag (pA (pv 5) pC))) (pA (aC ck (pv 3) pH) pC)))))) (pE (am (aa ah (hr.mono (c_f)) rfl (pA (pv 0) (pA (ag (pA pD pC)) pC)))) (pI (az (au (pA (pv 4) (pA (aq aF (pv 5) pH (fun _ _=>rfl)) (pA (pv 6) (pA (pv 7) pC))))))))))))),?_⟩;dsimp only[bJ,bN,bM];refine a0 fun BT wC=>?_;refine⟨ee,fun L hL=>?_⟩;have k1:=smu (o:=HO.lst [V.str "let",V.str "var",V.str "each"]) hL;have hL1:(upd H L (.lst [V.str "let",V.str "var",V.str "each"])) L=some (.lst [V.str "let",V.str "var",V.str "each"]):=pG;generalize upd H L (.lst [V.str "let",V.str "var",V.str "each"])=H1 at k1 hL1 ⊢;have pre1:=pre.same k1;refine⟨_,rfl,C,N,skv,3,rfl,pre1.x,by exact b_c,by decide,fun r H2 r0 r1 kp2 x2=>?_⟩;have pre2:=pre1.keep kp2 x2;have hL2:=pre1.x.kL kp2 hL1 (pre.x.new hL);obtain⟨j,rfl⟩:=Int.eq_ofNat_of_zero_le r0;obtain⟨h,hh,hm,hs,hw2⟩:∃ h:Str,([V.str "let",V.str "var",V.str "each"]:List V)[j]?=some (.str h)∧(h,(["bound","one","one"]:List Str))∈tbl∧(PyData.str h).canLay0=true∧bb h w2=true:=by
    rcases (show j=0∨j=1∨j=2 by exact AG) with rfl | rfl | rfl
    · exact⟨"let",rfl,by decide +kernel,by decide +kernel,by decide +kernel⟩
    · exact⟨"var",rfl,by decide +kernel,by decide +kernel,by decide +kernel⟩
    · exact⟨"each",rfl,by decide +kernel,by decide +kernel,by decide +kernel⟩
   refine⟨L,_,_,.str h,rfl,rfl,SqL.of hL2,pJ hh,?_⟩;refine wC _ _ (a0 fun BR wz=>?_);refine⟨_,rfl,_,rfl,gu,fun M hM=>?_⟩;have k3:=smu (o:=HO.lst [V.str "(",V.str h]) hM;refine⟨C,_,skv,M,["(",h],2,rfl,rfl,x2.same k3,pG,x2.new hM,cS 3,fun i3 H3 kp3 x3=>?_⟩;refine wz _ _ (a0 fun Ee Ci=>?_);have kp3':=(ac.of k3).trans kp3;have pre3:=pre2.keep kp3' x3;refine⟨_,rfl,_,rfl,C,_,skv,rfl,x3,cS 5,fun z H4 hz kp4 x4=>?_⟩;have pre4:=pre3.keep kp4 x4;refine⟨_,rfl,rfl,C,_,skv,z,_,rfl,x4,cS 5,fun v t H5 kp5 x5 tv hid=>?_⟩;refine Ci _ _ (a0 fun zQ qr=>?_);have pre5:=pre4.keep kp5 x5;obtain⟨av,rfl,hav⟩:=dM tv;have D5:=(ac.of k1).trans (kp2.trans (kp3'.trans (kp4.trans kp5)));refine⟨_,rfl,_,rfl,eW,fun t6 ht6=>?_⟩;have k6:=smu (o:=HO.tup [V.int 0]) ht6;have ht6':(upd H5 t6 (.tup [V.int 0])) t6=some (.tup [V.int 0]):=pG;generalize upd H5 t6 (.tup [V.int 0])=H6 at k6 ht6' ⊢;refine fS (j:=0) (pre5.same k6).pv ht6' rfl (b_p) fun p7 H7 k7 hp7=>?_;have k67:=k6.trans k7;have pre7:=pre5.same k67;refine⟨_,rfl,_,rfl,_,_,rfl,rfl,C,_,_,p7,path++[0],S,sn,dp,_,rfl,c_h,⟨pre7.x,hp7,by rw[lAp];show path.length+1+dp≤1000;exact c_g,pre7.se,c_s⟩,qA (k:=1) few (by decide),hdp,CJ 6,fun v1 d1 H8 skv8 kp8 x8 td1 ok1 gr1 cn1 fw1=>?_⟩;refine qr _ _ (a0 fun BQ wy=>?_);have pre8:=pre7.keep kp8 x8;have D4:=D5.trans ((ac.of k67).trans kp8);have tv8:=(tv.same k67).tk (pre7.x.tk kp8);refine⟨_,rfl,_,rfl,eW,fun t9 ht9=>?_⟩;have k9:=smu (o:=HO.tup [V.int 1]) ht9;have ht9':(upd H8 t9 (.tup [V.int 1])) t9=some (.tup [V.int 1]):=pG;generalize upd H8 t9 (.tup [V.int 1])=H9 at k9 ht9' ⊢;refine fS (j:=1) (pre8.same k9).pv ht9' rfl (b_p) fun p10 H10 k10 hp10=>?_;have k910:=k9.trans k10;have pre10:=pre8.same k910;refine⟨_,rfl,_,rfl,eW,fun t11 ht11=>?_⟩;have k11:=smu (o:=HO.lst [V.ref av]) ht11;have ht11':(upd H10 t11 (.lst [V.ref av])) t11=some (.lst [V.ref av]):=pG;have tv11:=(tv8.same k910).same k11;generalize upd H10 t11 (.lst [V.ref av])=H11 at k11 ht11' tv11 ⊢;have pre11:=pre10.same k11;obtain⟨xs,sv,g1,g2,g3,g4⟩:=pre11.se;have xl:=g2.length;rw[lMp] at xl;have g3l:=congrArg List.length g3;rw[lMp] at g3l;refine⟨S,t11,_,_,rfl,rfl,SqL.of g1,SqL.of ht11',by simp;lia,fun W hW=>?_⟩;have k12:=smu (o:=HO.lst (xs++[V.ref av])) hW;have se12:=SeV.cat (tv:=[t]) pre11.x g2 (.cons tv11 .nil) g3 hW;have hp12:=k12 _ _ (k11 _ _ hp10);generalize upd H11 W (.lst (xs++[V.ref av]))=H12 at k12 se12 hp12 ⊢;have pre12:=pre11.same k12;refine⟨_,rfl,_,_,rfl,rfl,C,_,skv8,p10,path++[1],W,sn++[t.2.1],dp,_,rfl,c_h,⟨pre12.x,hp12,by rw[lAp];show path.length+1+dp≤1000;exact c_g,se12,by rw[lAp];show sn.length+1+_≤_;lia⟩,fw1,hdp,by lia,fun v2 d2 H13 skv13 kp13 x13 td2 ok2 gr2 cn2 fw2=>?_⟩;refine wy _ _ (a0 fun qi ir=>?_);have K12:=k910.trans (k11.trans k12);have jO:=D4.trans ((ac.of K12).trans kp13);have tv13:=(tv8.same K12).tk (pre12.x.tk kp13);have td13:=(td1.same K12).tk (pre12.x.tk kp13);refine⟨_,rfl,eW,fun M2 hM2=>?_⟩;have k14:=smu (o:=HO.lst [V.str ")"]) hM2;refine⟨C,_,skv13,M2,[")"],1,rfl,rfl,x13.same k14,pG,x13.new hM2,by lia,fun i15 H15 kp15 x15=>?_⟩;refine ir _ _ ?_;have kp15':=(ac.of k14).trans kp15;have tk15:=x13.tk kp15';obtain⟨av',e,hav15⟩:=dM (tv13.tk tk15);cases e;refine⟨_,rfl,_,rfl,av,_,1,_,rfl,rfl,hav15,pJ (j:=1) rfl,_,rfl,_,rfl,Bf,fun u hu'=>?_⟩;have k16:=smu (o:=HO.tup [V.str h,V.int t.2.1,v1,v2]) hu';obtain⟨ok,ek⟩:=OkE.makeG (B':=sn++[t.2.1]) (n:=dp+1) (ps:=[.int t.2.1,d1,d2]) (ks:=[d1,d2]) hm hs (.cons (iF (by decide +kernel)) (.cons fK (.cons fK .nil))) rfl (tK rfl ok1.lay ok2.lay) (tK (Nat.zero_le _) ok1.dep1 ok2.dep1) (by show 2≤8;decide) (iJ (ok1.wide fun i z=>List.mem_append_left _ z) ok2) (qG (n:=dp+1) hm hw2 ok1 ok2);refine q _ _ _ skv13 (jO.trans (kp15'.trans (ac.of k16))) ((x15.same k16).more (by lia)) (.tup (SqT.of pG) (.cons (.str _) (.cons (.int _) (.cons ((td13.tk tk15).same k16) (.cons ((td2.tk tk15).same k16) .nil))))) ok ?_ (qF hm hw2 hid cn1 cn2) fw2;exact bv.node ek (bv.trans (b:=skv8) (fun x hx=>bv.kid (ds:=[d1,d2]) gr1 rfl x hx) (bv.kid gr2 rfl))
end
end K12
namespace P10
open PySem L2
theorem OkE.many {B:List Int} {n:Nat} {h s:Str} {p:PyData} {ds:PDs} (hm:(h,[s,"many"])∈tbl) (h1:s≠"one") (h2:s≠"many") (hsp:Shp s p) (hs:(PyData.str h).canLay0=true) (hp:p.canLay0=true) (hd:p.depth=0) (hl:ds.length≤8) (ho:∀ x∈ds,OkE B n x) (hm8:bb h w8=false:=by decide +kernel):OkE B (n+1) (.tuple [.str h,p,.tuple ds])∧ao (.tuple [.str h,p,.tuple ds])=ds:=by
 refine OkE.make (ps:=[p,.tuple ds]) hm hs (.cons hsp (.cons rR .nil)) ?_ (iJ hp (eB fun x hx=>(ho x hx).lay)) (iJ (by rw[hd];exact Nat.zero_le _) (eE fun x hx=>(ho x hx).dep)) (ix) ho hm8;show ba s p++(ds++[])=ds;unfold ba;rw[if_neg h1,if_neg h2];simp
end P10
namespace K12
open PySem L2 P10
section
variable {P:Program} {w:World} {K:Fg} {mg:SOV} {base:Heap}
theorem SX.form {H:Hp} {C:Ctx} {N:Nat} {skv:SK} (x:SX P w K H C N skv) {y:Addr×Frm} (hy:y∈C.fl):bR H y.1 (.str "name") (some (.str y.2.name))∧bR H y.1 (.str "number") (some (.int y.2.number))∧bR H y.1 (.str "inner") (some (.ref y.2.inner))∧H y.2.inner=some (.lst (y.2.inn.map V.str))∧y.2.inn.length≤4∧(y.2.sort="record"→0<y.2.inn.length):=by
 obtain⟨⟨m,k',B,si,hk,hB,sm⟩,rr,fe⟩:=x;obtain⟨⟨mf,stf,f1,f2,f3,f4,f5,f6⟩,hi⟩:=fe.fs y hy;obtain⟨i1,i2⟩:=fe.inn y hy;exact⟨stf.get f4,stf.get f6,stf.get f5,hi,i1,i2⟩
abbrev sRe:Stmt:=top 30
theorem yb:aB ["_law_state","_law_path","_law_seen_here","_law_deep","_law_some_here","_law_form_here","_law_e","_law_field"] dN (a7 sRe):=fsM
theorem za {n:Nat} (D:Def K mg "_law_record" sRe) (T:Blt mg) (ab:Fn P w K mg base "_law_pick" 2 ["_law_state","_law_many"] (fI P w K)) (ah:Fn P w K mg base "_law_lay" 1 ["_law_state","_law_words"] (fJ P w K)) (aU:Fn P w K mg base "_law_tell" 1 ["_law_state","_law_at","_law_thing"] (iQ P w K)) (bt:Fn P w K mg base "_law_choices" 2 ["_law_state","_law_sort"] (mw P w K)) (bK:Fn P w K mg base "_law_some" (5*n+6) nH (oU P w K n)):Fn P w K mg base "_law_record" (5*n+7) dN (xI P w K n):=by
 refine D.fn yb (fun vs H Q E h=>?_) (fun _ _ _ _ _ _ us hl=>by obtain⟨a,b,c,d,rfl⟩:=nR hl;rfl) (fun f cdv A outer s' H vs Q E hr h=>?_)
 · obtain⟨C,N,skv,pa,path,S,sn,dp,z,rfl,_⟩:=h;rfl
 · obtain⟨C,N,skv,pa,path,S,sn,dp,z,rfl,rfl,pre,few,hdp,hN,hne,q⟩:=h;have nd:=yb.nd;have hu:=bX hr;have hz0:(1000000:Nat)<sizeLine:=by decide
   have hc:=dG dp;obtain⟨t3,h3,q3⟩:∃ t,PSs (cJ CX0 P w K mg base ["_law_state","_law_path","_law_seen_here","_law_deep","_law_some_here","_law_form_here","_law_e","_law_field"] "_law_record" (a7 sRe) f cdv A outer s' H E).nox ((aW sRe).drop 3) t ∧
    ∀ (H1:Hp) (N1:Nat) (skv1:SK) (v:V) (d:PyData) (x4 x5 x7:Option V),ac C.A H H1→SX P w K H1 C N1 skv1→N1+1≤N+8*cst dp+36→TD K H1 v d→OkE sn (dp+2) d→bv C.fn path (AtP d) skv skv1→CnD (dp+2) skv.2.1 d skv1.2.1→Few skv1.2→t {nx:=fun _ H'=>Q .non H',rt:=Q} [some (.ref C.A.s),some (.ref pa),some (.ref S),some (.int ((dp+1:Nat):Int)),x4,x5,some v,x7] H1:=by
    refine⟨_,(pE (am (aa ah (hr.mono (c_f)) rfl (pA (pv 0) (pA (ag (pA pD pC)) pC)))) (pI (az (pv 6)))),fun H1 N1 skv1 v d x4 x5 x7 kp x hN1 td ok gr cn fw=>?_⟩;refine a0 fun Ep Cs=>?_;refine⟨_,rfl,eW,fun M hM=>?_⟩;have k2:=smu (o:=HO.lst [V.str ")"]) hM;refine⟨C,_,skv1,M,[")"],1,rfl,rfl,x.same k2,pG,x.new hM,c_x,fun i3 H3 kp3 x3=>?_⟩;refine Cs _ _ ?_;have kp3':=(ac.of k2).trans kp3;exact⟨_,rfl,q v d H3 skv1 (kp.trans kp3') (x3.more hN1) (td.tk (x.tk kp3')) ok gr cn fw⟩
   refine⟨_,(pE (pN (i:=4) nd rfl (Or.inl rfl) (aa bt (hr.mono (c_f)) rfl (pA (pv 0) (pA pD pC)))) (pE (pN (i:=5) nd rfl (Or.inl rfl) (aq aH (pv 4) (aa ab (hr.mono (c_f)) rfl (pA (pv 0) (pA (bc T.len (pA (pv 4) pC)) pC))) (fun _ _=>rfl))) (pE (aN (pO aV (aa ab (hr.mono (c_f)) rfl (pA (pv 0) (pA pH pC))) pH (pP _)) (pE (am (aa aU (hr.mono (c_f)) rfl (pA (pv 0) (pA (aa ah (hr.mono (c_f)) rfl (pA (pv 0) (pA (ag (pA pD (pA pD (pA (pM hu (pv 5) pD (fun _ _=>rfl)) pC)))) pC))) (pA (au (pA pD (pA (pM hu (pv 5) pD (fun _ _=>rfl)) pC))) pC))))) (pI (pN (i:=6) nd rfl (Or.inl rfl) (au (pA pD (pA (pM hu (pv 5) pD (fun _ _=>rfl)) (pA (aa bK (hr.mono (eM)) rfl (pA (pv 0) (pA (pv 1) (pA (pv 2) (pA (pv 3) (pA pH (pA (bc T.len (pA (pM hu (pv 5) pD (fun _ _=>rfl)) pC)) pC))))))) pC))))))) (pE (pN (i:=7) nd rfl (Or.inl rfl) (aa ab (hr.mono (c_f)) rfl (pA (pv 0) (pA (bc T.len (pA (pM hu (pv 5) pD (fun _ _=>rfl)) pC)) pC)))) (pE (am (aa aU (hr.mono (c_f)) rfl (pA (pv 0) (pA (aa ah (hr.mono (c_f)) rfl (pA (pv 0) (pA (ag (pA pD (pA pD (pA (pM hu (pv 5) pD (fun _ _=>rfl)) pC)))) pC))) (pA (au (pA pD (pA (pM hu (pv 5) pD (fun _ _=>rfl)) pC))) pC))))) (pE (am (aa aU (hr.mono (c_f)) rfl (pA (pv 0) (pA (aa ah (hr.mono (c_f)) rfl (pA (pv 0) (pA (ag (pA (aq aH (pM hu (pv 5) pD (fun _ _=>rfl)) (pv 7) (fun _ _=>rfl)) pC)) pC))) (pA (au (pA pD (pA (pM hu (pv 5) pD (fun _ _=>rfl)) (pA (pv 7) pC)))) pC))))) (pI (pN (i:=6) nd rfl (Or.inl rfl) (aC cR (au (pA pD (pA (pM hu (pv 5) pD (fun _ _=>rfl)) (pA (pv 7) pC)))) (aa bK (hr.mono (eM)) rfl (pA (pv 0) (pA (pv 1) (pA (pv 2) (pA (pv 3) (pA pH (pA pH pC)))))))))))))) h3))),?_⟩;dsimp only[bJ,bN,bM];refine a0 fun Ek Cn=>?_;refine⟨_,rfl,C,N,skv,"record",rfl,pre.x,fun W H1 s1 hW hW1=>?_⟩;refine Cn _ _ (a0 fun BT wC=>?_);have pre1:=pre.same s1;have hlen:0<(e9 C "record").length:=List.length_pos_iff.mpr hne;refine⟨_,rfl,_,rfl,_,rfl,W,_,rfl,.inl (SqL.of hW1),C,N,skv,_,rfl,pre1.x,b_c,by rw[lMp];exact b_z,fun r H2 r0 r1 kp2 x2=>?_⟩;have pre2:=pre1.keep kp2 x2;have hW2:=pre1.x.kL kp2 hW1 (pre.x.new hW);obtain⟨j,rfl⟩:=Int.eq_ofNat_of_zero_le r0;rw[lMp] at r1;have hj:j<(e9 C "record").length:=b_j;obtain⟨y,hy⟩:∃ y,(e9 C "record")[j]?=some y:=⟨_,gEE hj⟩;obtain⟨hyf,hys⟩:=mQ y (mGE hy);refine⟨W,_,_,.ref y.1,rfl,rfl,SqL.of hW2,pJ (by rw[gEM,hy];rfl),?_⟩;refine wC _ _ (a0 fun Eh A2=>?_);refine⟨_,rfl,C,_,skv,2,rfl,x2,cS 1,by decide,fun r3 H3 r30 r31 kp3 x3=>?_⟩;have pre3:=pre2.keep kp3 x3;have rE:ac C.A H H3:=(ac.of s1).trans (kp2.trans kp3);obtain⟨fn3,fm3,fi3,hi3,hi4,hi0⟩:=pre3.x.form hyf;have hmul:y.2.inn.length*cst dp≤4*cst dp:=Nat.mul_le_mul_right _ hi4;refine⟨rfl,_,rfl,?_⟩;split
   · -- new
     refine a0 fun Ed Ch=>?_;refine⟨_,rfl,_,rfl,_,rfl,y.1,_,rfl,fn3,ee,fun M hM=>?_⟩;have k4:=smu (o:=HO.lst [V.str "(",V.str "new",V.str y.2.name]) hM;refine⟨C,_,skv,M,["(","new",y.2.name],3,rfl,rfl,x3.same k4,pG,x3.new hM,cS 5,fun i4 H4 kp4 x4=>?_⟩;have kp4':=(ac.of k4).trans kp4;have pre4:=pre3.keep kp4' x4;refine⟨_,rfl,y.1,_,rfl,(x4.form hyf).2.1,gu,fun t ht=>?_⟩;have k5:=smu (o:=HO.tup [V.str "record",V.int y.2.number]) ht;refine⟨C,_,skv,_,_,rfl,x4.same k5,cS 5,fun H5 kp5 x5=>?_⟩;refine Ch _ _ ?_;have kp5':=(ac.of k5).trans kp5;have pre5:=pre4.keep kp5' x5;obtain⟨_,fm5,fi5,hi5,_,_⟩:=x5.form hyf;refine⟨_,rfl,y.1,_,rfl,fm5,_,rfl,_,rfl,_,rfl,_,rfl,_,rfl,y.1,_,rfl,fi5,y.2.inner,_,rfl,.inl (SqL.of hi5),C,_,skv,pa,path,S,sn,dp,_,_,y.2.inn.length,rfl,rfl,by rw[lMp],pre5,fg few,hdp,ix,by lia,fun v ds H6 skv6 kp6 x6 tv hl hok gr cn fw=>?_⟩;refine⟨ee,fun u hu'=>?_⟩;refine A2 _ _ ?_;have k7:=smu (o:=HO.tup [V.str "new",V.int y.2.number,v]) hu';obtain⟨ok,ek⟩:=OkE.many (n:=dp+1) (h:="new") (s:="place") (p:=.int y.2.number) (ds:=ds) (by decide +kernel) (by decide +kernel) (by decide +kernel) (iF (by decide +kernel)) (by decide +kernel) rfl rfl (b_q) hok;exact q3 _ _ skv6 _ _ _ _ _ (rE.trans (kp4'.trans (kp5'.trans (kp6.trans (ac.of k7))))) (x6.same k7) (by lia) (.tup (SqT.of pG) (.cons (.str _) (.cons (.int _) (.cons (tv.same k7) .nil)))) ok (bv.node ek gr) (CnD.plain ek cn) fw
   · -- get
     refine a0 fun BP wx=>?_;have hpos:=hi0 hys;refine⟨_,rfl,_,rfl,y.1,_,rfl,fi3,y.2.inner,_,rfl,.inl (SqL.of hi3),C,_,skv,_,rfl,x3,cS 2,by rw[lMp];exact b_z,fun r4 H4 r40 r41 kp4 x4=>?_⟩;refine wx _ _ (a0 fun E4 C8=>?_);have pre4:=pre3.keep kp4 x4;obtain⟨j4,rfl⟩:=Int.eq_ofNat_of_zero_le r40;rw[lMp] at r41;have hj4:j4<y.2.inn.length:=b_j;refine⟨_,rfl,_,rfl,_,rfl,y.1,_,rfl,(x4.form hyf).1,ee,fun M hM=>?_⟩;have k5:=smu (o:=HO.lst [V.str "(",V.str "get",V.str y.2.name]) hM;refine⟨C,_,skv,M,["(","get",y.2.name],3,rfl,rfl,x4.same k5,pG,x4.new hM,cS 6,fun i5 H5 kp5 x5=>?_⟩;have kp5':=(ac.of k5).trans kp5;have pre5:=pre4.keep kp5' x5;refine⟨_,rfl,y.1,_,rfl,(x5.form hyf).2.1,gu,fun t ht=>?_⟩;have k6:=smu (o:=HO.tup [V.str "record",V.int y.2.number]) ht;refine⟨C,_,skv,_,_,rfl,x5.same k6,cS 6,fun H6 kp6 x6=>?_⟩;refine C8 _ _ (a0 fun E1 C5=>?_);have kp6':=(ac.of k6).trans kp6;have pre6:=pre5.keep kp6' x6;obtain⟨_,fm6,fi6,hi6,_,_⟩:=x6.form hyf;refine⟨_,rfl,_,rfl,_,rfl,y.1,_,rfl,fi6,_,rfl,y.2.inner,_,_,.str y.2.inn[j4],rfl,rfl,SqL.of hi6,pJ (by rw[gEM,gEE hj4];rfl),eW,fun M2 hM2=>?_⟩;have k7:=smu (o:=HO.lst [V.str y.2.inn[j4]]) hM2;refine⟨C,_,skv,M2,[y.2.inn[j4]],1,rfl,rfl,x6.same k7,pG,x6.new hM2,cS 8,fun i7 H7 kp7 x7=>?_⟩;have kp7':=(ac.of k7).trans kp7;have pre7:=pre6.keep kp7' x7;refine⟨_,rfl,y.1,_,rfl,(x7.form hyf).2.1,_,rfl,ee,fun t8 ht8=>?_⟩;have k8:=smu (o:=HO.tup [V.str "field",V.int y.2.number,V.int ((j4:Nat):Int)]) ht8;refine⟨C,_,skv,_,_,rfl,x7.same k8,cS 8,fun H8 kp8 x8=>?_⟩;refine C5 _ _ ?_;have kp8':=(ac.of k8).trans kp8;have pre8:=pre7.keep kp8' x8;refine⟨_,rfl,y.1,_,rfl,(x8.form hyf).2.1,_,rfl,ee,fun t9 ht9=>?_⟩;have k9:=smu (o:=HO.tup [V.str "get",V.int y.2.number,V.int ((j4:Nat):Int)]) ht9;have td9:TD K (upd H8 t9 (.tup [V.str "get",V.int y.2.number,V.int ((j4:Nat):Int)])) (.ref t9) (.tuple [.str "get",.int y.2.number,.int ((j4:Nat):Int)]):=.tup (SqT.of pG) (.cons (.str _) (.cons (.int _) (.cons (.int _) .nil)));generalize upd H8 t9 (.tup [V.str "get",V.int y.2.number,V.int ((j4:Nat):Int)])=H9 at k9 td9 ⊢;have pre9:=pre8.same k9;refine⟨_,rfl,_,rfl,_,rfl,_,rfl,C,_,skv,pa,path,S,sn,dp,_,_,1,rfl,rfl,rfl,pre9,fg few,hdp,by decide,by lia,fun v ds H10 skv10 kp10 x10 tv hl hok gr cn fw=>?_⟩;obtain⟨d,rfl⟩:=eK hl;obtain⟨av,xv,rfl,_,_⟩:=tv.tup_of;refine dH (td9.tk (pre9.x.tk kp10)) tv (by simp) fun p11 H11 k11 t11=>?_;refine A2 _ _ ?_;have okd:=hok d mCS;obtain⟨ok,ek⟩:=OkE.make (n:=dp+1) (h:="get") (sl:=["place","place","one"]) (ps:=[.int y.2.number,.int ((j4:Nat):Int),d]) (ks:=[d]) (by decide +kernel) (by decide +kernel) (.cons (iF (by decide +kernel)) (.cons (iF (by decide +kernel)) (.cons fK .nil))) rfl (tK rfl rfl okd.lay) (tK (Nat.zero_le _) (Nat.zero_le _) okd.dep1) (by show 1≤8;decide) (oC okd);exact q3 _ _ skv10 _ _ _ _ _ (rE.trans (kp4.trans (kp5'.trans (kp6'.trans (kp7'.trans (kp8'.trans ((ac.of k9).trans (kp10.trans (ac.of k11))))))))) (x10.same k11) (by lia) t11 ok (bv.node ek gr) (CnD.plain ek cn) fw
end
def lK:Stmt→List Stmt
  | .If _ _ o _=>o
  | _=>[]
def wv:Stmt→List Stmt
  | .If _ b _ _=>b
  | _=>[]
abbrev p0:Stmt:=.Pass ⟨0,0,0,0⟩
theorem sH:∀ z∈nms,(PyData.str z).canLay0=true:=by decide +kernel
section
variable {P:Program} {w:World} {K:Fg} {mg:SOV} {base:Heap}
abbrev sNa:Stmt:=top 29
abbrev nNa:List Str:=["_law_state","_law_path","_law_seen_here","_law_deep","_law_way","_law_found","_law_local","_law_e","_law_some_here","_law_form_here","_law_name_here"]
theorem yh:aB nNa jq (a7 sNa):=fsM
theorem zi {n:Nat} (D:Def K mg "_law_named" sNa) (T:Blt mg) (ab:Fn P w K mg base "_law_pick" 2 ["_law_state","_law_many"] (fI P w K)) (ah:Fn P w K mg base "_law_lay" 1 ["_law_state","_law_words"] (fJ P w K)) (aU:Fn P w K mg base "_law_tell" 1 ["_law_state","_law_at","_law_thing"] (iQ P w K)) (c6:Fn P w K mg base "_law_name" 3 ["_law_state"] (mq P w K)) (cC:Fn P w K mg base "_law_seen" 1 ["_law_state","_law_seen_here","_law_is_set"] (mn P w K)) (bt:Fn P w K mg base "_law_choices" 2 ["_law_state","_law_sort"] (mw P w K)) (bK:Fn P w K mg base "_law_some" (5*n+6) nH (oU P w K n)) (jP:Fn P w K mg base "_law_record" (5*n+7) dN (xI P w K n)):Fn P w K mg base "_law_named" (5*n+8) jq (nD P w K (fun _=>True) n):=by
 refine D.fn yh (fun vs H Q E h=>?_) (fun _ _ _ _ _ _ us hl=>by obtain⟨a,b,c,d,e,rfl⟩:=sO hl;rfl) (fun f cdv A outer s' H vs Q E hr h=>?_)
 · obtain⟨C,N,skv,pa,path,S,sn,dp,z,y,rfl,_⟩:=h;rfl
 · obtain⟨C,N,skv,pa,path,S,sn,dp,z,y,rfl,rfl,_,pre,few,hdp,hN,q⟩:=h;have nd:=yh.nd;have hu:=bX hr;have hz0:(1000000:Nat)<sizeLine:=by decide
   have hc:=dG dp;have hsl:=pre.sl;obtain⟨t3,h3,q3⟩:∃ t,PSs (cJ CX0 P w K mg base nNa "_law_named" (a7 sNa) f cdv A outer s' H E).nox ((aW sNa).drop 2) t ∧
    ∀ (H1:Hp) (N1:Nat) (skv1:SK) (v:V) (d:PyData) (x5 x6 x8 x9 x10:Option V),ac C.A H H1→SX P w K H1 C N1 skv1→N1+1≤N+8*cst dp+36→TD K H1 v d→OkE sn (dp+2) d→bv C.fn path (AtP d) skv skv1→CnD (dp+2) skv.2.1 d skv1.2.1→Few skv1.2→t {nx:=fun _ H'=>Q .non H',rt:=Q} [some (.ref C.A.s),some (.ref pa),some (.ref S),some (.int ((dp+1:Nat):Int)),some (.int y),x5,x6,some v,x8,x9,x10] H1:=by
    refine⟨_,(pE (am (aa ah (hr.mono (c_f)) rfl (pA (pv 0) (pA (ag (pA pD pC)) pC)))) (pI (az (pv 7)))),fun H1 N1 skv1 v d x5 x6 x8 x9 x10 kp x hN1 td ok gr cn fw=>?_⟩;refine a0 fun Es Cu=>?_;refine⟨_,rfl,eW,fun M hM=>?_⟩;have k2:=smu (o:=HO.lst [V.str ")"]) hM;refine⟨C,_,skv1,M,[")"],1,rfl,rfl,x.same k2,pG,x.new hM,c_x,fun i3 H3 kp3 x3=>?_⟩;refine Cu _ _ ?_;have kp3':=(ac.of k2).trans kp3;exact⟨_,rfl,q v d H3 skv1 (kp.trans kp3') (x3.more hN1) (td.tk (x.tk kp3')) ok gr cn fw⟩
   obtain⟨t4,h4,q4⟩:∃ t,PSs (cJ CX0 P w K mg base nNa "_law_named" (a7 sNa) f cdv A outer s' H E).nox (lK ((lK ((lK ((aW sNa).getD 1 p0)).getD 0 p0)).getD 0 p0)) t ∧
    ∀ (DD:eO) (H1:Hp) (x5 x6 x7 x8 x9 x10:Option V),ak H H1→(∀ σ' H',t3 {nx:=fun _ H'=>Q .non H',rt:=Q} σ' H'→DD.nx σ' H')→t DD [some (.ref C.A.s),some (.ref pa),some (.ref S),some (.int ((dp+1:Nat):Int)),some (.int y),x5,x6,x7,x8,x9,x10] H1:=by
    refine⟨_,(pE (pN (i:=10) nd rfl (Or.inl rfl) (aa c6 (hr.mono (c_f)) rfl (pA (pv 0) pC))) (pE (am (aa ah (hr.mono (c_f)) rfl (pA (pv 0) (pA (ag (pA pD (pA pD (pA (pv 10) pC)))) pC)))) (pI (pN (i:=7) nd rfl (Or.inl rfl) (au (pA pD (pA (pv 10) pC))))))),fun DD H1 x5 x6 x7 x8 x9 x10 s1 hD=>?_⟩;refine a0 fun En Cq=>?_;have pre1:=pre.same s1;refine⟨_,rfl,C,_,skv,rfl,pre1.x,cS 2,fun z H2 hz kp2 x2=>?_⟩;refine Cq _ _ (a0 fun Em Cp=>?_);refine⟨_,rfl,_,rfl,ee,fun M hM=>?_⟩;have k3:=smu (o:=HO.lst [V.str "(",V.str "fault",V.str z]) hM;refine⟨C,_,skv,M,["(","fault",z],3,rfl,rfl,x2.same k3,pG,x2.new hM,cS 5,fun i3 H3 kp3 x3=>?_⟩;refine Cp _ _ ?_;refine⟨_,rfl,gu,fun u hu'=>?_⟩;have k4:=smu (o:=HO.tup [V.str "fault",V.str z]) hu';exact hD _ _ (q3 _ _ skv _ _ _ _ _ _ _ ((ac.of s1).trans (kp2.trans ((ac.of k3).trans (kp3.trans (ac.of k4))))) (x3.same k4) (CK 6) (.tup (SqT.of pG) (.cons (.str _) (.cons (.str _) .nil))) (OkE.leaf (s:="word") (by decide +kernel) (by decide +kernel) (by decide +kernel) (xV (by decide +kernel)) (by decide +kernel) (sH z hz) rfl _) (bv.refl _ _ _ _) (CnD.plain (ks:=[]) rfl rfl) (fg few))
   refine⟨_,(pE (pN (i:=5) nd rfl (Or.inl rfl) (aa cC (hr.mono (c_f)) rfl (pA (pv 0) (pA (pv 2) (pA dW pC))))) (pE (aN (PW.pt (b8 (pO aV (pv 4) pH (pP _)) (bn (pO (dX hu) (pv 5) (ag pC) (pP _))))) (pE (pN (i:=6) nd rfl (Or.inl rfl) (aq aH (pv 5) (aa ab (hr.mono (c_f)) rfl (pA (pv 0) (pA (bc T.len (pA (pv 5) pC)) pC))) (fun _ _=>rfl))) (pE (am (aa aU (hr.mono (c_f)) rfl (pA (pv 0) (pA (aa ah (hr.mono (c_f)) rfl (pA (pv 0) (pA (ag (pA pD (pA pD (pA (aq aF (pv 6) pH (fun _ _=>rfl)) pC)))) pC))) (pA (au (pA pD (pA (pM hu (pv 0) pD (fun _ _=>rfl)) (pA (aq aF (pv 6) pH (fun _ _=>rfl)) pC)))) pC))))) (pI (pN (i:=7) nd rfl (Or.inl rfl) (aC cR (au (pA pD (pA (aq aF (pv 6) pH (fun _ _=>rfl)) pC))) (aa bK (hr.mono (eM)) rfl (pA (pv 0) (pA (pv 1) (pA (pv 2) (pA (pv 3) (pA pH (pA pH pC)))))))))))) (pI (aN (PW.pt (b8 (pO aV (pv 4) pH (pP _)) (bn (pO (dX hu) (aa bt (hr.mono (c_f)) rfl (pA (pv 0) (pA pD pC))) (ag pC) (pP _))))) (pI (az (aa jP (hr.mono (eM)) rfl (pA (pv 0) (pA (pv 1) (pA (pv 2) (pA (pv 3) pC))))))) (pI (aN (PW.pt (b8 (pO aV (pv 4) pH (pP _)) (bn (pO (dX hu) (aa bt (hr.mono (c_f)) rfl (pA (pv 0) (pA pD pC))) (ag pC) (pP _))))) (pE (pN (i:=8) nd rfl (Or.inl rfl) (aa bt (hr.mono (c_f)) rfl (pA (pv 0) (pA pD pC)))) (pE (pN (i:=9) nd rfl (Or.inl rfl) (aq aH (pv 8) (aa ab (hr.mono (c_f)) rfl (pA (pv 0) (pA (bc T.len (pA (pv 8) pC)) pC))) (fun _ _=>rfl))) (pE (am (aa aU (hr.mono (c_f)) rfl (pA (pv 0) (pA (aa ah (hr.mono (c_f)) rfl (pA (pv 0) (pA (ag (pA pD (pA (pM hu (pv 9) pD (fun _ _=>rfl)) pC))) pC))) (pA (au (pA pD (pA (pM hu (pv 9) pD (fun _ _=>rfl)) pC))) pC))))) (pI (pN (i:=7) nd rfl (Or.inl rfl) (au (pA pD (pA (pM hu (pv 9) pD (fun _ _=>rfl)) (pA (aa bK (hr.mono (eM)) rfl (pA (pv 0) (pA (pv 1) (pA (pv 2) (pA (pv 3) (pA pH (pA (bc T.len (pA (pM hu (pv 9) pD (fun _ _=>rfl)) pC)) pC))))))) pC))))))))) h4))))) h3)),?_⟩;dsimp only[bJ,bN,bM];refine a0 fun BS wA=>?_;refine⟨_,rfl,_,rfl,C,N,skv,S,sn,true,rfl,pre.x,pre.se,b_p,fun W zs ts H1 s1 hW hW1 ht htl hmem=>?_⟩;refine wA _ _ ?_;have pre1:=pre.same s1;have htl':=ht.length;rw[lMp] at htl';refine⟨_,rfl,rfl,_,rfl,?_⟩;by_cases h5:y=5
   · subst h5;refine pL (by decide) ⟨_,rfl,ef,fun e0 he=>?_⟩;have k2:=smu (o:=HO.lst []) he;refine⟨W,e0,zs,rfl,rfl,SqL.of (k2 _ _ hW1),SqL.of pG,_,rfl,?_⟩;have hW2:=k2 _ _ hW1;have ht2:=ht.same k2;generalize upd H1 e0 (.lst [])=H2 at k2 hW2 ht2 ⊢;have pre2:=pre1.same k2;cases hzs:zs with
     | nil =>
      refine aZ ?_;refine⟨_,rfl,rfl,_,rfl,aZ (aZ ⟨_,rfl,rfl,_,rfl,aZ (aZ ?_)⟩)⟩;exact q4 _ H2 _ _ _ _ _ _ (s1.trans k2) fun σ' H' z=>z
     | cons z0 zr =>
      have hzl:0<zs.length:=by rw[hzs];exact Nat.succ_pos _
      refine bx ?_;refine a0 fun Eb Cf=>?_;refine⟨_,rfl,_,rfl,_,rfl,W,_,rfl,.inl (SqL.of hW2),C,N,skv,_,rfl,pre2.x,b_c,b_z,fun r H3 r0 r1 kp3 x3=>?_⟩;have pre3:=pre2.keep kp3 x3;have hW3:=pre2.x.kL kp3 hW2 (pre.x.new hW);have ht3:=ht2.tk (pre2.x.tk kp3);obtain⟨j,rfl⟩:=Int.eq_ofNat_of_zero_le r0;have hj:j<zs.length:=b_j;have hzj:zs[j]?=some zs[j]:=gEE hj;obtain⟨d0,hd0,td0⟩:=ht3.get hzj;rw[gEM] at hd0;obtain⟨t0,ht0,rfl⟩:=oMS.mp hd0;obtain⟨a,ea,ha⟩:=dM td0;rw[ea] at td0;refine⟨W,_,_,.ref a,rfl,rfl,SqL.of hW3,pJ (by rw[hzj,ea]),?_⟩;refine Cf _ _ (a0 fun E3 C7=>?_);refine⟨_,rfl,_,rfl,_,rfl,a,_,0,_,rfl,rfl,ha,pJ (j:=0) rfl,ee,fun M hM=>?_⟩;have k4:=smu (o:=HO.lst [V.str "(",V.str "set",V.str t0.1]) hM;refine⟨C,_,skv,M,["(","set",t0.1],3,rfl,rfl,x3.same k4,pG,x3.new hM,cS 4,fun i4 H4 kp4 x4=>?_⟩;have kp4':=(ac.of k4).trans kp4;have pre4:=pre3.keep kp4' x4;have td4:=td0.tk (x3.tk kp4');obtain⟨a',e,ha4⟩:=dM td4;cases e;refine⟨_,rfl,C.A.s,_,rfl,x4.rd.2.1,_,rfl,a,_,1,_,rfl,rfl,ha4,pJ (j:=1) rfl,ee,fun t ht'=>?_⟩;have k5:=smu (o:=HO.tup [V.str "local",V.int ((C.fn:Nat):Int),V.int t0.2.1]) ht';refine⟨C,_,skv,_,_,rfl,x4.same k5,cS 4,fun H5 kp5 x5=>?_⟩;refine C7 _ _ ?_;have kp5':=(ac.of k5).trans kp5;have pre5:=pre4.keep kp5' x5;obtain⟨a',e,ha5⟩:=dM (td4.tk (x4.tk kp5'));cases e;refine⟨_,rfl,a,_,1,_,rfl,rfl,ha5,pJ (j:=1) rfl,gu,fun t9 ht9=>?_⟩;have k9:=smu (o:=HO.tup [V.str "set",V.int t0.2.1]) ht9;have td9:TD K (upd H5 t9 (.tup [V.str "set",V.int t0.2.1])) (.ref t9) (.tuple [.str "set",.int t0.2.1]):=.tup (SqT.of pG) (.cons (.str _) (.cons (.int _) .nil));generalize upd H5 t9 (.tup [V.str "set",V.int t0.2.1])=H9 at k9 td9 ⊢;have pre9:=pre5.same k9;refine⟨_,rfl,_,rfl,_,rfl,_,rfl,C,_,skv,pa,path,S,sn,dp,_,_,1,rfl,rfl,rfl,pre9,fg few,hdp,by decide,by lia,fun v ds H10 skv10 kp10 x10 tv hl hok gr cn fw=>?_⟩;obtain⟨d,rfl⟩:=eK hl;obtain⟨av,xv,rfl,_,_⟩:=tv.tup_of;refine dH (td9.tk (pre9.x.tk kp10)) tv (by simp) fun p11 H11 k11 t11=>?_;have okd:=hok d mCS;obtain⟨ok,ek⟩:=OkE.makeM (n:=dp+1) (h:="set") (sl:=["meant","one"]) (ps:=[.int t0.2.1,d]) (ks:=[d]) (by decide +kernel) (by decide +kernel) (.cons (iF (by decide +kernel)) (.cons fK .nil)) rfl (iJ rfl okd.lay) (iJ (Nat.zero_le _) okd.dep1) (by show 1≤8;decide) (oC okd) (fun i z=>by cases (show some (PyData.int t0.2.1)=some (.int i) from z);exact hmem t0 (mGE ht0));exact q3 _ _ skv10 _ _ _ _ _ _ _ ((ac.of (s1.trans k2)).trans (kp3.trans (kp4'.trans (kp5'.trans ((ac.of k9).trans (kp10.trans (ac.of k11))))))) (x10.same k11) (by lia) t11 ok (bv.node ek gr) (CnD.plain ek cn) fw
   · refine pK (by simp[h5]) (aZ ?_);refine⟨_,rfl,rfl,_,rfl,?_⟩;by_cases h6:y=6
     · subst h6;refine pL (by decide) ⟨_,rfl,C,_,skv,"record",rfl,pre1.x,fun W2 H2 s2 hW2 hW2'=>?_⟩;refine⟨ef,fun e0 he=>?_⟩;have k3:=smu (o:=HO.lst []) he;refine⟨W2,e0,_,rfl,rfl,SqL.of (k3 _ _ hW2'),SqL.of pG,_,rfl,?_⟩;generalize upd H2 e0 (.lst [])=H3 at k3 ⊢;have s3:=s2.trans k3;cases hch:e9 C "record" with
       | nil =>
        refine aZ ?_;refine⟨_,rfl,rfl,_,rfl,aZ (aZ ?_)⟩;exact q4 _ H3 _ _ _ _ _ _ (s1.trans s3) fun σ' H' z=>z
       | cons z0 zr =>
        refine bx ?_;exact⟨_,rfl,_,rfl,_,rfl,_,rfl,C,N,skv,pa,path,S,sn,dp,_,rfl,rfl,pre1.same s3,few,hdp,hN,by rw[hch];exact List.cons_ne_nil _ _,fun v d H' skv' kp x td ok gr cn fw=>q v d H' skv' ((ac.of (s1.trans s3)).trans kp) x td ok gr cn fw⟩
     · refine pK (by simp[h6]) (aZ ?_);refine⟨_,rfl,rfl,_,rfl,?_⟩;by_cases h7:y=7
       · subst h7;refine pL (by decide) ⟨_,rfl,C,_,skv,"function",rfl,pre1.x,fun W2 H2 s2 hW2 hW2'=>?_⟩;refine⟨ef,fun e0 he=>?_⟩;have k3:=smu (o:=HO.lst []) he;refine⟨W2,e0,_,rfl,rfl,SqL.of (k3 _ _ hW2'),SqL.of pG,_,rfl,?_⟩;generalize upd H2 e0 (.lst [])=H3 at k3 ⊢;have s3:=s2.trans k3;cases hch:e9 C "function" with
         | nil =>
          refine aZ ?_;exact q4 _ H3 _ _ _ _ _ _ (s1.trans s3) fun σ' H' z=>z
         | cons z0 zr =>
          refine bx ?_;refine a0 fun DG An=>?_;have pre3:=pre1.same s3;refine⟨_,rfl,C,_,skv,"function",rfl,pre3.x,fun W4 H4 s4 hW4 hW4'=>?_⟩;refine An _ _ (a0 fun zT qv=>?_);have pre4:=pre3.same s4;have hlen:0<(e9 C "function").length:=by rw[hch];exact Nat.succ_pos _
          refine⟨_,rfl,_,rfl,_,rfl,W4,_,rfl,.inl (SqL.of hW4'),C,N,skv,_,rfl,pre4.x,b_c,by rw[lMp];exact b_z,fun r H5 r0 r1 kp5 x5=>?_⟩;have pre5:=pre4.keep kp5 x5;have hW5:=pre4.x.kL kp5 hW4' (pre3.x.new hW4);obtain⟨j,rfl⟩:=Int.eq_ofNat_of_zero_le r0;rw[lMp] at r1;have hj:j<(e9 C "function").length:=b_j;obtain⟨y,hy⟩:∃ y,(e9 C "function")[j]?=some y:=⟨_,gEE hj⟩;obtain⟨hyf,hys⟩:=mQ y (mGE hy);refine⟨W4,_,_,.ref y.1,rfl,rfl,SqL.of hW5,pJ (by rw[gEM,hy];rfl),?_⟩;refine qv _ _ (a0 fun DE Al=>?_);obtain⟨fn5,fm5,fi5,hi5,hi4,hi0⟩:=pre5.x.form hyf;have hmul:y.2.inn.length*cst dp≤4*cst dp:=Nat.mul_le_mul_right _ hi4;refine⟨_,rfl,_,rfl,_,rfl,y.1,_,rfl,fn5,gu,fun M hM=>?_⟩;have k6:=smu (o:=HO.lst [V.str "(",V.str y.2.name]) hM;refine⟨C,_,skv,M,["(",y.2.name],2,rfl,rfl,x5.same k6,pG,x5.new hM,cS 3,fun i6 H6 kp6 x6=>?_⟩;have kp6':=(ac.of k6).trans kp6;have pre6:=pre5.keep kp6' x6;refine⟨_,rfl,y.1,_,rfl,(x6.form hyf).2.1,gu,fun t ht=>?_⟩;have k7:=smu (o:=HO.tup [V.str "function",V.int y.2.number]) ht;refine⟨C,_,skv,_,_,rfl,x6.same k7,cS 3,fun H7 kp7 x7=>?_⟩;refine Al _ _ ?_;have kp7':=(ac.of k7).trans kp7;have pre7:=pre6.keep kp7' x7;obtain⟨_,fm7,fi7,hi7,_,_⟩:=x7.form hyf;refine⟨_,rfl,y.1,_,rfl,fm7,_,rfl,_,rfl,_,rfl,_,rfl,_,rfl,y.1,_,rfl,fi7,y.2.inner,_,rfl,.inl (SqL.of hi7),C,_,skv,pa,path,S,sn,dp,_,_,y.2.inn.length,rfl,rfl,by rw[lMp],pre7,fg few,hdp,ix,by lia,fun v ds H8 skv8 kp8 x8 tv hl hok gr cn fw=>?_⟩;refine⟨ee,fun u hu'=>?_⟩;have k9:=smu (o:=HO.tup [V.str "call",V.int y.2.number,v]) hu';obtain⟨ok,ek⟩:=OkE.many (n:=dp+1) (h:="call") (s:="place") (p:=.int y.2.number) (ds:=ds) (by decide +kernel) (by decide +kernel) (by decide +kernel) (iF (by decide +kernel)) (by decide +kernel) rfl rfl (b_q) hok;exact q3 _ _ skv8 _ _ _ _ _ _ _ ((ac.of (s1.trans (s3.trans s4))).trans (kp5.trans (kp6'.trans (kp7'.trans (kp8.trans (ac.of k9)))))) (x8.same k9) (by lia) (.tup (SqT.of pG) (.cons (.str _) (.cons (.int _) (.cons (tv.same k9) .nil)))) ok (bv.node ek gr) (CnD.plain ek cn) fw
       · refine pK (by simp[h7]) (aZ ?_);exact q4 _ H1 _ _ _ _ _ _ s1 fun σ' H' z=>z
end
def fG:List Str:=["add","sub","mul","div","less","same","at"]
def w9:List Str:=["if","while","say"]
theorem tR {z:Str} (h:bb z w9=true):bb z w2=false∧z≠"fun":=by
 have:∀ x∈w9,bb x w2=false∧x≠"fun":=by decide +kernel
 exact this z (by unfold bb at h;simpa using h)
def Wok (z:Str) (many:Nat):Prop:=(z="do"∨z="if"∧many=3∨z="while"∧many=2∨z="say"∧many=1∨(z≠"do"∧bb z w9=false∧(PyData.str z).canLay0=true))∧many≤8
theorem rF:∀ z∈fG,z≠"do"∧bb z w9=false∧(PyData.str z).canLay0=true:=by decide +kernel
section
variable {P:Program} {w:World} {K:Fg} {mg:SOV} {base:Heap}
abbrev sPl:Stmt:=top 31
abbrev nPl:List Str:=["_law_state","_law_path","_law_seen_here","_law_deep","_law_way","_law_twos","_law_word","_law_many","_law_children"]
theorem yd:aB nPl jq (a7 sPl):=fsM
theorem zd {n:Nat} (D:Def K mg "_law_plain" sPl) (T:Blt mg) (ab:Fn P w K mg base "_law_pick" 2 ["_law_state","_law_many"] (fI P w K)) (ah:Fn P w K mg base "_law_lay" 1 ["_law_state","_law_words"] (fJ P w K)) (bK:Fn P w K mg base "_law_some" (5*n+6) nH (oU P w K n)):Fn P w K mg base "_law_plain" (5*n+8) jq (nD P w K (fun y=>8≤y∧y<15) n):=by
 refine D.fn yd (fun vs H Q E h=>?_) (fun _ _ _ _ _ _ us hl=>by obtain⟨a,b,c,d,e,rfl⟩:=sO hl;rfl) (fun f cdv A outer s' H vs Q E hr h=>?_)
 · obtain⟨C,N,skv,pa,path,S,sn,dp,z,y,rfl,_⟩:=h;rfl
 · obtain⟨C,N,skv,pa,path,S,sn,dp,z,y,rfl,rfl,⟨y8,y15⟩,pre,few,hdp,hN,q⟩:=h;have nd:=yd.nd;have hu:=bX hr;have hz0:(1000000:Nat)<sizeLine:=by decide
   have hc:=dG dp;obtain⟨t3,h3,q3⟩:∃ t,PSs (cJ CX0 P w K mg base nPl "_law_plain" (a7 sPl) f cdv A outer s' H E).nox ((aW sPl).drop 3) t ∧
    ∀ (H1:Hp) (z:Str) (many:Nat) (x5:Option V),ac C.A H H1→SX P w K H1 C (N+4) skv→Wok z many→t {nx:=fun _ H'=>Q .non H',rt:=Q} [some (.ref C.A.s),some (.ref pa),some (.ref S),some (.int ((dp+1:Nat):Int)),some (.int y),x5,some (.str z),some (.int ((many:Nat):Int)),none] H1:=by
    refine⟨_,(pE (am (aa ah (hr.mono (c_f)) rfl (pA (pv 0) (pA (ag (pA pD (pA (pv 6) pC))) pC)))) (pE (pN (i:=8) nd rfl (Or.inl rfl) (aa bK (hr.mono (eM)) rfl (pA (pv 0) (pA (pv 1) (pA (pv 2) (pA (pv 3) (pA pH (pA (pv 7) pC)))))))) (pE (am (aa ah (hr.mono (c_f)) rfl (pA (pv 0) (pA (ag (pA pD pC)) pC)))) (pE (aN (pO aV (pv 6) pD (pP _)) (pI (az (au (pA pD (pA (pv 8) pC))))) aE) (pE (aN (pO cA (pv 6) (au (pA pD (pA pD (pA pD pC)))) (by with_unfolding_all rfl)) (pI (az (aC cR (au (pA (pv 6) pC)) (pv 8)))) aE) (pI (az (au (pA pD (pA (pv 6) (pA (pv 8) pC))))))))))),fun H1 z many x5 kp1 x1 wok=>?_⟩;refine a0 fun Ev Cy=>?_;obtain⟨wok,hm8⟩:=wok;have hmul:many*cst dp≤8*cst dp:=Nat.mul_le_mul_right _ hm8;refine⟨_,rfl,_,rfl,gu,fun M hM=>?_⟩;have k2:=smu (o:=HO.lst [V.str "(",V.str z]) hM;refine⟨C,_,skv,M,["(",z],2,rfl,rfl,x1.same k2,pG,x1.new hM,cS 6,fun i3 H3 kp3 x3=>?_⟩;refine Cy _ _ (a0 fun BU wD=>?_);have rE:=kp1.trans ((ac.of k2).trans kp3);have pre3:=pre.keep rE x3;refine⟨_,rfl,_,rfl,_,rfl,_,rfl,_,rfl,C,_,skv,pa,path,S,sn,dp,_,_,many,rfl,rfl,rfl,pre3,fg few,hdp,hm8,by lia,fun v ds H4 skv4 kp4 x4 tv hl hok gr cn fw=>?_⟩;refine wD _ _ (a0 fun Er Ct=>?_);refine⟨_,rfl,eW,fun M5 hM5=>?_⟩;have k5:=smu (o:=HO.lst [V.str ")"]) hM5;refine⟨C,_,skv4,M5,[")"],1,rfl,rfl,x4.same k5,pG,x4.new hM5,by lia,fun i6 H6 kp6 x6=>?_⟩;refine Ct _ _ (a0 fun Eo Cr=>?_);have kp6':=(ac.of k5).trans kp6;have tv6:=tv.tk (x4.tk kp6');have oH:=rE.trans (kp4.trans kp6');refine⟨_,rfl,rfl,_,rfl,?_⟩;by_cases hdo:z="do"
    · subst hdo;refine pL (by simp) ⟨_,rfl,gu,fun u hu'=>?_⟩;have k7:=smu (o:=HO.tup [V.str "do",v]) hu';obtain⟨ok,ek⟩:=OkE.make (n:=dp+1) (h:="do") (sl:=["many"]) (ps:=[.tuple ds]) (ks:=ds) (by decide +kernel) (by decide +kernel) (.cons rR .nil) (List.append_nil ds) (oC (eB fun x hx=>(hok x hx).lay)) (oC (eE fun x hx=>(hok x hx).dep)) (b_q) hok;exact q _ _ _ skv4 (oH.trans (ac.of k7)) ((x6.same k7).more (by lia)) (.tup (SqT.of pG) (.cons (.str _) (.cons (tv6.same k7) .nil))) ok (bv.node ek gr) (CnD.plain ek cn) fw
    · refine pK (by simp[hdo]) ?_;refine Cr _ _ (a0 fun BS wA=>?_);refine⟨_,rfl,ee,fun t1 ht1=>?_⟩;have k7:=smu (o:=HO.tup (w9.map V.str)) ht1;refine⟨t1,w9.map V.str,rfl,.inr (SqT.of pG),rfl,cB _,_,rfl,?_⟩;rw[e8];have g1:upd H6 t1 (.tup [V.str "if",V.str "while",V.str "say"])=upd H6 t1 (.tup (w9.map V.str)):=rfl;rw[g1];generalize upd H6 t1 (.tup (w9.map V.str))=H7 at k7 ⊢;have x7:=x6.same k7;have tv7:=tv6.same k7;have DV:=oH.trans (ac.of k7);cases b9:bb z w9 with
      | true =>
       refine bx ⟨_,rfl,eW,fun u hu'=>?_⟩;have k8:=smu (o:=HO.tup [V.str z]) hu';have td8:TD K (upd H7 u (.tup [V.str z])) (.ref u) (.tuple [.str z]):=.tup (SqT.of pG) (.cons (.str _) .nil);generalize upd H7 u (.tup [V.str z])=H8 at k8 td8 ⊢;obtain⟨av,xv,rfl,_,_⟩:=tv7.tup_of;refine⟨_,rfl,dH td8 (tv7.same k8) (by show 1+ds.length≤100000;lia) fun p9 H9 k9 t9=>?_⟩;have fin:OkE sn (dp+2) (.tuple (.str z::ds))∧ao (.tuple (.str z::ds))=ds:=by
        have sh1:∀ {d:PyData},Shp "one" d:=fun {d}=>fK
        rcases wok with e | ⟨rfl,rfl⟩ | ⟨rfl,rfl⟩ | ⟨rfl,rfl⟩ | ⟨_,e,_⟩
        · exact absurd e hdo
        · obtain⟨a,b,c,rfl⟩:=fO hl;exact OkE.make (n:=dp+1) (h:="if") (sl:=["one","one","one"]) (by decide +kernel) (by decide +kernel) (.cons sh1 (.cons sh1 (.cons sh1 .nil))) rfl (fun x hx=>(hok x hx).lay) (fun x hx=>(hok x hx).dep1) (by show 3≤8;decide) hok
        · obtain⟨a,b,rfl⟩:=il hl;exact OkE.make (n:=dp+1) (h:="while") (sl:=["one","one"]) (by decide +kernel) (by decide +kernel) (.cons sh1 (.cons sh1 .nil)) rfl (fun x hx=>(hok x hx).lay) (fun x hx=>(hok x hx).dep1) (by show 2≤8;decide) hok
        · obtain⟨a,rfl⟩:=eK hl;exact OkE.make (n:=dp+1) (h:="say") (sl:=["one"]) (by decide +kernel) (by decide +kernel) (.cons sh1 .nil) rfl (fun x hx=>(hok x hx).lay) (fun x hx=>(hok x hx).dep1) (by show 1≤8;decide) hok
        · rw[b9] at e;cases e
       exact q _ _ _ skv4 (DV.trans (ac.of (k8.trans k9))) ((x7.same (k8.trans k9)).more (by lia)) t9 fin.1 (bv.node fin.2 gr) (CnD.plain fin.2 cn (tR b9).1 (tR b9).2) fw
      | false =>
       refine aZ ?_;refine wA _ _ ?_;have hlay:(PyData.str z).canLay0=true:=by
        rcases wok with e | ⟨e,_⟩ | ⟨e,_⟩ | ⟨e,_⟩ | ⟨_,_,e⟩
        · exact absurd e hdo
        · subst e;exact absurd b9 (by decide +kernel)
        · subst e;exact absurd b9 (by decide +kernel)
        · subst e;exact absurd b9 (by decide +kernel)
        · exact e
       refine⟨_,rfl,_,rfl,ee,fun u hu'=>?_⟩;have k8:=smu (o:=HO.tup [V.str "op",V.str z,v]) hu';obtain⟨ok,ek⟩:=OkE.many (n:=dp+1) (h:="op") (s:="op") (p:=.str z) (ds:=ds) (by decide +kernel) (by decide +kernel) (by decide +kernel) (xV (by decide +kernel)) (by decide +kernel) hlay rfl (b_q) hok;exact q _ _ _ skv4 (DV.trans (ac.of k8)) ((x7.same k8).more (by lia)) (.tup (SqT.of pG) (.cons (.str _) (.cons (.str _) (.cons (tv7.same k8) .nil)))) ok (bv.node ek gr) (CnD.plain ek cn) fw
   obtain⟨j,hj⟩:=Int.eq_ofNat_of_zero_le (show 0≤y-8 by lia);have hj7:j<7:=by lia
   refine⟨_,(pE (pN (i:=5) nd rfl (Or.inl rfl) (ag (pA pD (pA pD (pA pD (pA pD (pA pD (pA pD (pA pD pC))))))))) (pE (pN (i:=6) nd rfl (Or.inl rfl) (aq aH (ag (pA (aq aH (pv 5) (aa ab (hr.mono (c_f)) rfl (pA (pv 0) (pA pH pC))) (fun _ _=>rfl)) (pA pD (pA pD (pA pD (pA (aq aH (ag (pA pD (pA pD pC))) (aa ab (hr.mono (c_f)) rfl (pA (pv 0) (pA pH pC))) (fun _ _=>rfl)) (pA pD (pA pD pC)))))))) (aC ck (pv 4) pH) (fun _ _=>rfl))) (pE (pN (i:=7) nd rfl (Or.inl rfl) (aq aH (ag (pA pH (pA (aC bI pH (aa ab (hr.mono (c_f)) rfl (pA (pv 0) (pA pH pC)))) (pA pH (pA pH (pA pH (pA pH (pA (aq aH (ag (pA pH (pA pH (pA pH (pA pH (pA pH pC)))))) (aa ab (hr.mono (c_f)) rfl (pA (pv 0) (pA pH pC))) (fun _ _=>rfl)) pC)))))))) (aC ck (pv 4) pH) (fun _ _=>rfl))) h3))),?_⟩;dsimp only[bJ,bN,bM];refine a0 fun DZ C4=>?_;refine⟨B4,fun L hL=>?_⟩;refine C4 _ _ (a0 fun zU qw=>?_);have k1:=smu (o:=HO.lst (fG.map V.str)) hL;have g1:upd H L (.lst [V.str "add",V.str "sub",V.str "mul",V.str "div",V.str "less",V.str "same",V.str "at"])=upd H L (.lst (fG.map V.str)):=rfl;rw[g1];have hL1:(upd H L (.lst (fG.map V.str))) L=some (.lst (fG.map V.str)):=pG;generalize upd H L (.lst (fG.map V.str))=H1 at k1 hL1 ⊢;have x1:=pre.x.same k1;refine⟨_,rfl,_,rfl,C,N,skv,7,rfl,x1,b_c,by decide,fun r2 H2 r20 r21 kp2 x2=>?_⟩;obtain⟨j2,rfl⟩:=Int.eq_ofNat_of_zero_le r20;have hL2:=x1.kL kp2 hL1 (pre.x.new hL);have hj2:j2<fG.length:=by have:fG.length=7:=rfl;exact wO
   refine⟨L,_,_,.str fG[j2],rfl,rfl,SqL.of hL2,pJ (by rw[gEM,gEE hj2];rfl),?_⟩;refine⟨gu,fun M hM=>?_⟩;have k3:=smu (o:=HO.lst [V.str "not",V.str "size"]) hM;have hM3:(upd H2 M (.lst [V.str "not",V.str "size"])) M=some (.lst [V.str "not",V.str "size"]):=pG;have frM:=x2.new hM;generalize upd H2 M (.lst [V.str "not",V.str "size"])=H3 at k3 hM3 ⊢;have x3:=x2.same k3;refine⟨_,rfl,C,_,skv,2,rfl,x3,cS 1,by decide,fun r4 H4 r40 r41 kp4 x4=>?_⟩;obtain⟨j4,rfl⟩:=Int.eq_ofNat_of_zero_le r40;have hM4:=x3.kL kp4 hM3 frM;obtain⟨z4,hz4,hz4'⟩:∃ z:Str,([V.str "not",V.str "size"]:List V)[j4]?=some (.str z)∧(z≠"do"∧bb z w9=false∧(PyData.str z).canLay0=true):=by
    rcases (show j4=0∨j4=1 by lia) with rfl | rfl
    · exact⟨"not",rfl,by decide +kernel⟩
    · exact⟨"size",rfl,by decide +kernel⟩
   refine⟨M,_,_,.str z4,rfl,rfl,SqL.of hM4,pJ hz4,?_⟩;refine⟨B4,fun O hO=>?_⟩;have k5:=smu (o:=HO.lst [V.str fG[j2],V.str "do",V.str "if",V.str "while",V.str z4,V.str "say",V.str "row"]) hO;have hO5:(upd H4 O (.lst [V.str fG[j2],V.str "do",V.str "if",V.str "while",V.str z4,V.str "say",V.str "row"])) O=some (.lst [V.str fG[j2],V.str "do",V.str "if",V.str "while",V.str z4,V.str "say",V.str "row"]):=pG;generalize upd H4 O (.lst [V.str fG[j2],V.str "do",V.str "if",V.str "while",V.str z4,V.str "say",V.str "row"])=H5 at k5 hO5 ⊢;have x5:=x4.same k5;obtain⟨z,hz⟩:∃ z:Str,([V.str fG[j2],V.str "do",V.str "if",V.str "while",V.str z4,V.str "say",V.str "row"]:List V)[j]?=some (.str z):=by
    rcases (show j=0∨j=1∨j=2∨j=3∨j=4∨j=5∨j=6 by exact wN (by lia)) with rfl | rfl | rfl | rfl | rfl | rfl | rfl <;> exact⟨_,rfl⟩
   refine⟨_,rfl,_,_,rfl,rfl,O,_,_,.str z,rfl,rfl,SqL.of hO5,by rw[hj];exact pJ hz,?_⟩;refine qw _ _ (a0 fun DH Ao=>?_);refine⟨_,rfl,C,_,skv,3,rfl,x5,cS 2,by decide,fun r6 H6 r60 r61 kp6 x6=>?_⟩;obtain⟨j6,rfl⟩:=Int.eq_ofNat_of_zero_le r60;refine⟨_,_,rfl,rfl,Be,fun U hU=>?_⟩;have k7:=smu (o:=HO.lst [V.int 0,V.int 1,V.int 2,V.int 3,V.int 8]) hU;have hU7:(upd H6 U (.lst [V.int 0,V.int 1,V.int 2,V.int 3,V.int 8])) U=some (.lst [V.int 0,V.int 1,V.int 2,V.int 3,V.int 8]):=pG;have frU:=x6.new hU;generalize upd H6 U (.lst [V.int 0,V.int 1,V.int 2,V.int 3,V.int 8])=H7 at k7 hU7 ⊢;have x7:=x6.same k7;refine⟨_,rfl,C,_,skv,5,rfl,x7,by exact cS 3,by decide,fun r8 H8 r80 r81 kp8 x8=>?_⟩;obtain⟨j8,rfl⟩:=Int.eq_ofNat_of_zero_le r80;have hU8:=x7.kL kp8 hU7 frU;obtain⟨c8,hc8,hc8'⟩:∃ c:Nat,([V.int 0,V.int 1,V.int 2,V.int 3,V.int 8]:List V)[j8]?=some (.int ((c:Nat):Int))∧c≤8:=by
    rcases (show j8=0∨j8=1∨j8=2∨j8=3∨j8=4 by exact AF) with rfl | rfl | rfl | rfl | rfl
    · exact⟨0,rfl,by decide⟩
    · exact⟨1,rfl,by decide⟩
    · exact⟨2,rfl,by decide⟩
    · exact⟨3,rfl,by decide⟩
    · exact⟨8,rfl,by decide⟩
   refine⟨U,_,_,.int ((c8:Nat):Int),rfl,rfl,SqL.of hU8,pJ hc8,?_⟩;refine⟨B4,fun V9 hV9=>?_⟩;have k9:=smu (o:=HO.lst [V.int 2,V.int (1+((j6:Nat):Int)),V.int 3,V.int 2,V.int 1,V.int 1,V.int ((c8:Nat):Int)]) hV9;obtain⟨many,hmy,wok⟩:∃ many:Nat,([V.int 2,V.int (1+((j6:Nat):Int)),V.int 3,V.int 2,V.int 1,V.int 1,V.int ((c8:Nat):Int)]:List V)[j]?=some (.int ((many:Nat):Int))∧Wok z many:=by
    rcases (show j=0∨j=1∨j=2∨j=3∨j=4∨j=5∨j=6 by exact wN (by lia)) with rfl | rfl | rfl | rfl | rfl | rfl | rfl
    · cases hz;exact⟨2,rfl,.inr (.inr (.inr (.inr (rF _ (List.getElem_mem hj2))))),by decide⟩
    · cases hz;exact⟨1+j6,by show some (V.int (1+((j6:Nat):Int)))=_;congr 2,.inl rfl,b_i 1⟩
    · cases hz;exact⟨3,rfl,.inr (.inl ⟨rfl,rfl⟩),by decide⟩
    · cases hz;exact⟨2,rfl,.inr (.inr (.inl ⟨rfl,rfl⟩)),by decide⟩
    · cases hz;exact⟨1,rfl,.inr (.inr (.inr (.inr hz4'))),by decide⟩
    · cases hz;exact⟨1,rfl,.inr (.inr (.inr (.inl ⟨rfl,rfl⟩))),by decide⟩
    · cases hz;exact⟨c8,rfl,.inr (.inr (.inr (.inr (by decide +kernel)))),hc8'⟩
   refine⟨_,rfl,_,_,rfl,rfl,V9,_,_,.int ((many:Nat):Int),rfl,rfl,SqL.of pG,by rw[hj];exact pJ hmy,?_⟩;refine Ao _ _ ?_;exact q3 _ z many _ ((ac.of k1).trans (kp2.trans ((ac.of k3).trans (kp4.trans ((ac.of k5).trans (kp6.trans ((ac.of k7).trans (kp8.trans (ac.of k9))))))))) (x8.same k9) wok
end
end K12
namespace P10
open PySem L2
theorem wL {B:List Int} {n:Nat} {ts:List (Str×Int×Bool×Int)} {d:PyData} (hl:ts.length≤3) (ok:OkE (B++(ts.map fun t=>t.2.1)) n d):∀ j,FrD (n+1) (.tuple (.str "fun"::[.tuple (ts.map fun t=>.int t.2.1),d])) j→j∈B:=fun j z=>by
 rcases z with z | ⟨k,x,h1,h2,h3⟩
 · have z':eJ "fun" [.tuple (ts.map fun t=>.int t.2.1),d]=some (.int j):=z;rw[ii (by decide +kernel)] at z';cases z'
 · rw[fQ (sl:=(["bounds","one"]:List Str)) (ks:=[d]) (by decide +kernel) (.cons (vv hl) (.cons fK .nil)) rfl (by show 1≤8;decide)] at h1 h3;obtain rfl:k=0:=by have:=(gES.mp h1).1;simp at this;omega
   cases h1;have h4:PyData.int j∉(ts.map fun t=>PyData.int t.2.1):=h3 rfl
   rcases mAp.mp (ok.cl j h2) with z | z
   · exact z
   · obtain⟨t,ht,e⟩:=List.mem_map.mp z;exact absurd (List.mem_map.mpr ⟨t,ht,by rw[e]⟩) h4
end P10
namespace K12
open PySem L2 P10
section
variable {P:Program} {w:World} {K:Fg} {mg:SOV} {base:Heap}
theorem kX {H:Hp} {C:Ctx} {N:Nat} {skv:SK} {U L:Addr} {zs:List Str} {Q:VK} (x:SX P w K H C N skv) (hU:H U=some (.lst (zs.map V.str))) (hUr:U∉C.A.rs) (hL:H L=none) (hN:N+zs.length<900000) (hzl:zs.length≤1000)
 (q:∀ (H':Hp) (ys:List V) (ts:List (Str×Int×Bool×Int)),ac C.A H H'→SX P w K H' C (N+zs.length) (skv.1,skv.2.1+((zs.length:Nat):Int),skv.2.2)→H' L=some (.lst ys)→TDs K H' ys (ts.map dSe)→ts.length=zs.length→(ts.map fun t=>t.2.1)=rgI skv.2.1 ts.length→Q (.ref L) H') :
 b6 (Itl K U) (eT 0) nC (gP (iR P w K) [] E0 (cP (cq 1) (cP (cq 0) (cP (tC (.bl false)) iC)))) Q [none,some (.ref C.A.s)] H L:=by
 have hz0:(1000000:Nat)<sizeLine:=by decide
 have k0:=smu (o:=HO.lst []) hL;have fr:=x.fr hL;have UL:U≠L:=fun e=>by rw[e,hL] at hU;cases hU
 refine b6.by (aK (xs:=zs.map V.str)) (fun j σ Hj=>ac C.A H Hj∧Hj U=some (.lst (zs.map V.str))∧(∃ (ys:List V) (ts:List (Str×Int×Bool×Int)),SX P w K Hj C (N+j) (skv.1,skv.2.1+((j:Nat):Int),skv.2.2)∧Hj L=some (.lst ys)∧TDs K Hj ys (ts.map dSe)∧ts.length=j∧(ts.map fun t=>t.2.1)=rgI skv.2.1 j)∧∃ y,σ=[y,some (.ref C.A.s)])
  ⟨ac.of k0,k0 _ _ hU,⟨[],[],by rw[Int.natCast_zero,Int.add_zero];exact x.same k0,pG,.nil,rfl,rfl⟩,_,rfl⟩ (fun j σ Hj _ z=>SqL.of z.2.1) ?_ ?_
 · rintro j v σ Hj hv ⟨kp,hUj,⟨ys,ts,xj,hLj,hts,htl,hrg⟩,y,rfl⟩;have hj:j<zs.length:=by have:=(gES.mp hv).1;rwa [lMp] at this
   rw[gEM] at hv;obtain⟨z,hz,rfl⟩:=oMS.mp hv;rw[aL,df];refine bx ⟨_,rfl,_,rfl,C,_,_,z,false,rfl,xj,by lia,fun v t H5 kp5 x5 tv hid=>?_⟩;have hL5:=xj.kL kp5 hLj fr.rs;have yl:=hts.length;rw[lMp] at yl;refine⟨ys,hL5,by lia,(kp.trans kp5).put hL,by rw[a9 UL];exact xj.kL kp5 hUj hUr,⟨_,ts++[t],?_,pG,?_,by simp[htl],by rw[List.map_append,hrg,pz];show _++[t.2.1]=_;rw[hid]⟩,_,rfl⟩
   · have x6:=x5.updL (ys:=ys++[v]) fr hL5;have e:skv.2.1+((j:Nat):Int)+1=skv.2.1+((j+1:Nat):Int):=by lia
     rw[← e];exact x6
   rw[List.map_append];exact ((hts.tk (xj.tk kp5)).snoc tv).tk (bC (.inr ⟨_,hL5⟩))
 · rintro σ Hj ⟨kp,hUj,⟨ys,ts,xj,hLj,hts,htl,hrg⟩,y,rfl⟩;rw[lMp] at xj htl hrg;exact q Hj ys ts kp xj hLj hts htl (by rw[htl];exact hrg)
theorem oQ {H:Hp} (ts:List (Str×Int×Bool×Int)):TDs K H (ts.map fun t=>V.int t.2.1) (ts.map fun t=>PyData.int t.2.1):=by
 induction ts with
 | nil=>exact .nil
 | cons t r ih=>exact .cons (.int _) ih
abbrev sFu:Stmt:=top 32
abbrev nFu:List Str:=["_law_state","_law_path","_law_seen_here","_law_deep","_law_way","_law_children","_law_some_here","_law_body"]
theorem yq:aB nFu jq (a7 sFu):=fsM
theorem zP:(["_law_name_here","_law_state"]:List Str).Nodup:=by decide +kernel
theorem nd1:(["_law_one"]:List Str).Nodup:=by decide +kernel
theorem zA {n:Nat} (D:Def K mg "_law_fun" sFu) (T:Blt mg) (ab:Fn P w K mg base "_law_pick" 2 ["_law_state","_law_many"] (fI P w K)) (ah:Fn P w K mg base "_law_lay" 1 ["_law_state","_law_words"] (fJ P w K)) (cy:Fn P w K mg base "_law_unlike" 4 ["_law_state","_law_others","_law_most"] (oS P w K)) (c9:Fn P w K mg base "_law_bind" 2 ["_law_state","_law_name_here","_law_is_var"] (iR P w K)) (bK:Fn P w K mg base "_law_some" (5*n+6) nH (oU P w K n)) (c7:Fn P w K mg base "_law_expr" (5*n+5) dN (kc P w K n)):Fn P w K mg base "_law_fun" (5*n+8) jq (nD P w K (fun _=>True) n):=by
 refine D.fn yq (fun vs H Q E h=>?_) (fun _ _ _ _ _ _ us hl=>by obtain⟨a,b,c,d,e,rfl⟩:=sO hl;rfl) (fun f cdv A outer s' H vs Q E hr h=>?_)
 · obtain⟨C,N,skv,pa,path,S,sn,dp,z,y,rfl,_⟩:=h;rfl
 · obtain⟨C,N,skv,pa,path,S,sn,dp,z,y,rfl,rfl,_,pre,few,hdp,hN,q⟩:=h;have nd:=yq.nd;have hu:=bX hr;have hz0:(1000000:Nat)<sizeLine:=by decide
   have hc:=dG dp;have hsl:=pre.sl;have hpl:=pre.pl;refine⟨_,(pE (aN (pO aV (pv 4) pH (pP _)) (pE (am (aa ah (hr.mono (c_f)) rfl (pA (pv 0) (pA (ag (pA pD (pA pD pC))) pC)))) (pE (pN (i:=5) nd rfl (Or.inl rfl) (aa bK (hr.mono (eM)) rfl (pA (pv 0) (pA (pv 1) (pA (pv 2) (pA (pv 3) (pA pH (pA (aC bI pH (aa ab (hr.mono (c_f)) rfl (pA (pv 0) (pA pH pC)))) pC)))))))) (pE (am (aa ah (hr.mono (c_f)) rfl (pA (pv 0) (pA (ag (pA pD pC)) pC)))) (pI (az (au (pA pD (pA (aq aF (pv 5) pH (fun _ _=>rfl)) (pA (cs eY (pv 5) (bH pH) cQ) pC))))))))) aE) (pE (am (aa ah (hr.mono (c_f)) rfl (pA (pv 0) (pA (ag (pA pD (pA pD (pA pD pC)))) pC)))) (pE (bg hu (pv 0) pD (aC bI (pM hu (pv 0) pD (fun _ _=>rfl)) pH) rfl) (pE (eR (i0:=6) (own:=["_law_name_here"]) (outs:=[ (0,"_law_state") ]) rfl (aI.of (a7 sFu) nFu) (bu (aa cy (hr.mono (c_f)) rfl (pA (pv 0) (pA (ag pC) (pA pH pC))))) (fun _ _ _ _=>⟨(ae (i:=0) zP rfl (Or.inl rfl)),bL,(aa c9 (hr.mono (c_f)) rfl (pA (pv 1) (pA (pv 0) (pA dW pC))))⟩) nd rfl rfl) (pE (am (aa ah (hr.mono (c_f)) rfl (pA (pv 0) (pA (ag (pA pD pC)) pC)))) (pE (pN (i:=7) nd rfl (Or.inl rfl) (aa c7 (hr.mono (eM)) rfl (pA (pv 0) (pA (aC cR (pv 1) (au (pA pH pC))) (pA (aC fL (pv 2) (pv 6)) (pA (aC ck (pv 3) pH) pC)))))) (pE (bg hu (pv 0) pD (aC ck (pM hu (pv 0) pD (fun _ _=>rfl)) pH) rfl) (pE (am (aa ah (hr.mono (c_f)) rfl (pA (pv 0) (pA (ag (pA pD pC)) pC)))) (pI (az (au (pA pD (pA (cg T.tuple (pA (dU (own:=["_law_one"]) (outs:=[]) (te:=tOp (nG K) (cq 0) (tC (.int 1))) rfl (aI.of (a7 sFu) nFu) (bu (pv 6)) (fun _ _ _ _=>⟨(ae (i:=0) nd1 rfl (Or.inl rfl)),bL,(aq aF (pv 0) pH (fun _ _=>rfl))⟩)) pC)) (pA (pv 7) pC)))))))))))))),?_⟩;dsimp only[bJ,bN,bM]
   with_reducible refine a0 fun Ei Cl=>?_
   refine⟨_,rfl,rfl,_,rfl,?_⟩;split
   · -- apply
     with_reducible refine a0 fun Eg Ck=>?_
     refine⟨_,rfl,gu,fun M hM=>?_⟩;have k1:=smu (o:=HO.lst [V.str "(",V.str "apply"]) hM;refine⟨C,_,skv,M,["(","apply"],2,rfl,rfl,pre.x.same k1,pG,pre.x.new hM,cS 2,fun i2 H2 kp2 x2=>?_⟩;refine Ck _ _ ?_
     with_reducible refine a0 fun BR wz=>?_
     have kp2':=(ac.of k1).trans kp2;refine⟨_,rfl,_,rfl,_,rfl,_,rfl,_,rfl,C,_,skv,3,rfl,x2,cS 2,by decide,fun r3 H3 r30 r31 kp3 x3=>?_⟩;have rE:=kp2'.trans kp3;have pre3:=pre.keep rE x3;obtain⟨j3,rfl⟩:=Int.eq_ofNat_of_zero_le r30;have hmul:(1+j3)*cst dp≤8*cst dp:=Nat.mul_le_mul_right _ (b_i 1);refine⟨_,_,rfl,rfl,C,_,skv,pa,path,S,sn,dp,_,_,1+j3,rfl,rfl,by lia,pre3,fg few,hdp,b_i 1,by lia,fun v ds H4 skv4 kp4 x4 tv hl hok gr cn fw=>?_⟩;refine wz _ _ ?_
     with_reducible refine a0 fun Ec Cg=>?_
     refine⟨_,rfl,eW,fun M5 hM5=>?_⟩;have k5:=smu (o:=HO.lst [V.str ")"]) hM5;refine⟨C,_,skv4,M5,[")"],1,rfl,rfl,x4.same k5,pG,x4.new hM5,by lia,fun i6 H6 kp6 x6=>?_⟩;refine Cg _ _ ?_;have kp6':=(ac.of k5).trans kp6;have tv6:=tv.tk (x4.tk kp6');have oH:=rE.trans (kp4.trans kp6');obtain⟨d0,dr,rfl⟩:∃ d0 dr,ds=d0::dr:=by
      cases ds with
      | nil=>simp at hl;lia
      | cons d0 dr=>exact⟨d0,dr,rfl⟩
     obtain⟨av,xv,rfl,hav,hxv⟩:=tv6.tup_of;obtain⟨v0,vr,rfl,t0,tr⟩:∃ v0 vr,xv=v0::vr∧TD K H6 v0 d0∧TDs K H6 vr dr:=by
      cases hxv with
      | cons p q=>exact⟨_,_,rfl,p,q⟩
     refine⟨_,rfl,av,_,0,v0,rfl,rfl,hav,pJ (j:=0) rfl,_,rfl,_,rfl,av,_,rfl,hav,?_,fun z7 hz7=>?_⟩
     · unfold HT.sIx;simp
     · rw[show (some (1:Int))=some (((1:Nat):Nat):Int) from rfl,cK];have k7:=smu (o:=HO.tup ((v0::vr).drop 1)) hz7;have t7:TD K (upd H6 z7 (.tup ((v0::vr).drop 1))) (.ref z7) (.tuple dr):=.tup (SqT.of pG) (tr.same k7);have t0':=t0.same k7;generalize upd H6 z7 (.tup ((v0::vr).drop 1))=H7 at k7 t7 t0' ⊢;refine⟨ee,fun u hu'=>?_⟩;have k8:=smu (o:=HO.tup [V.str "apply",v0,V.ref z7]) hu';have hok':∀ x∈dr,OkE sn (dp+1) x:=fun x hx=>hok x (mCM _ hx);have hok0:=hok d0 mCS;have hl':dr.length+1=1+j3:=hl;obtain⟨ok,ek⟩:=OkE.make (n:=dp+1) (h:="apply") (sl:=["one","many"]) (ps:=[d0,.tuple dr]) (ks:=d0::dr) (by decide +kernel) (by decide +kernel) (.cons fK (.cons rR .nil)) (by show [d0]++(dr++[])=d0::dr;simp) (iJ hok0.lay (eB fun x hx=>(hok' x hx).lay)) (iJ hok0.dep1 (eE fun x hx=>(hok' x hx).dep)) (by rw[hl];exact b_i 1) hok;exact q _ _ _ skv4 (oH.trans (ac.of (k7.trans k8))) ((x6.same (k7.trans k8)).more (by lia)) (.tup (SqT.of pG) (.cons (.str _) (.cons (t0'.same k8) (.cons (t7.same k8) .nil)))) ok (bv.node ek gr) (CnD.plain ek cn) fw
   · -- fun
     refine Cl _ _ ?_
     with_reducible refine a0 fun zU qw=>?_
     refine⟨_,rfl,ee,fun M hM=>?_⟩;have k1:=smu (o:=HO.lst [V.str "(",V.str "fun",V.str "("]) hM;refine⟨C,_,skv,M,["(","fun","("],3,rfl,rfl,pre.x.same k1,pG,pre.x.new hM,cS 3,fun i2 H2 kp2 x2=>?_⟩;refine qw _ _ ?_;have EG:=(ac.of k1).trans kp2;obtain⟨fu,hfu⟩:=x2.getI;obtain⟨H3,dp3,kp3,x3⟩:=x2.putF (fu+1);refine⟨_,rfl,C.A.s,_,rfl,hfu,_,_,rfl,rfl,_,rfl,C.A.s,H3,rfl,dp3,?_⟩;dsimp only;rw[fZ,cz,cj];refine⟨_,rfl,ef,fun O hO=>?_⟩;have k4:=smu (o:=HO.lst []) hO;refine⟨C,_,skv,O,[],3,rfl,x3.same k4,pG,by decide,by lia,fun U zs H5 hzl hzn hU hU5 kp5 x5=>?_⟩;have kp5':=(ac.of k4).trans kp5;have D5:=EG.trans (kp3.trans kp5');refine⟨U,rfl,⟨_,SqL.of hU5⟩,fun L hL=>?_⟩;refine kX x5 hU5 hU hL (by lia) (ix) fun H6 ys ts kp6 x6 hL6 hts htl hrg=>?_;have hts3:ts.length≤3:=by lia
     have frL:=(x5.fr hL).rs;rw[aL]
     with_reducible refine a0 fun DO At=>?_
     have oH:=D5.trans kp6;have pre6:=pre.keep oH x6;refine⟨_,rfl,eW,fun M7 hM7=>?_⟩;have k7:=smu (o:=HO.lst [V.str ")"]) hM7;refine⟨C,_,_,M7,[")"],1,rfl,rfl,x6.same k7,pG,x6.new hM7,by lia,fun i8 H8 kp8 x8=>?_⟩;refine At _ _ ?_
     with_reducible refine a0 fun DJ Ap=>?_
     have kp8':=(ac.of k7).trans kp8;have D4:=oH.trans kp8';have pre8:=pre6.keep kp8' x8;have hL8:=x6.kL kp8' hL6 frL;have hts8:=hts.tk (x6.tk kp8');refine⟨_,rfl,_,rfl,eW,fun t9 ht9=>?_⟩;have k9:=smu (o:=HO.tup [V.int 0]) ht9;have ht9':(upd H8 t9 (.tup [V.int 0])) t9=some (.tup [V.int 0]):=pG;generalize upd H8 t9 (.tup [V.int 0])=H9 at k9 ht9' ⊢;refine fS (j:=0) (pre8.same k9).pv ht9' rfl (b_p) fun p10 H10 k10 hp10=>?_;have k910:=k9.trans k10;have pre10:=pre8.same k910;have hts10:=hts8.same k910;obtain⟨xs,sv,g1,g2,g3,g4⟩:=pre10.se;have xl:=g2.length;rw[lMp] at xl;have g3l:=congrArg List.length g3;rw[lMp] at g3l;have yl:=hts10.length;rw[lMp] at yl;refine⟨_,rfl,_,rfl,S,L,_,_,rfl,rfl,SqL.of g1,SqL.of (k910 _ _ hL8),by lia,fun W hW=>?_⟩;have k12:=smu (o:=HO.lst (xs++ys)) hW;have se12:=SeV.cat pre10.x g2 hts10 g3 hW;have hp12:=k12 _ _ hp10;generalize upd H10 W (.lst (xs++ys))=H12 at k12 se12 hp12 ⊢;have K12:=k910.trans k12;have pre12:=pre8.same K12;refine⟨_,rfl,_,_,rfl,rfl,C,_,_,p10,path++[0],W,sn++(ts.map fun t=>t.2.1),dp,_,rfl,c_h,⟨pre12.x,hp12,by rw[lAp];show path.length+1+dp≤1000;exact c_g,se12,by rw[lAp,lMp];lia⟩,qA few hzl,hdp,by lia,fun v d H13 skv13 kp13 x13 td ok1 gr cn fw=>?_⟩;refine Ap _ _ ?_
     with_reducible refine a0 fun zT qv=>?_
     have kp13':=(ac.of K12).trans kp13;have jO:=D4.trans kp13';have hL13:=pre8.x.kL kp13' hL8 frL;have hts13:=hts8.tk (pre8.x.tk kp13');obtain⟨fu,hfu⟩:=x13.getI;obtain⟨H14,dp14,kp14,x14⟩:=x13.putF (fu-1);refine⟨_,rfl,C.A.s,_,rfl,hfu,_,_,rfl,rfl,_,rfl,C.A.s,H14,rfl,dp14,?_⟩;refine qv _ _ ?_
     with_reducible refine a0 fun zS qu=>?_
     refine⟨_,rfl,eW,fun M15 hM15=>?_⟩;have k15:=smu (o:=HO.lst [V.str ")"]) hM15;refine⟨C,_,skv13,M15,[")"],1,rfl,rfl,x14.same k15,pG,x14.new hM15,by lia,fun i16 H16 kp16 x16=>?_⟩;refine qu _ _ ?_;have kp16':=kp14.trans ((ac.of k15).trans kp16);have D6:=jO.trans kp16';have hL16:=x13.kL kp16' hL13 frL;have tk16:=x13.tk kp16';have hts16:=hts13.tk tk16;have td16:=td.tk tk16;rw[gX,pQ,cD,yE,cD,iS,cD,cj];refine⟨_,rfl,L,rfl,⟨_,SqL.of hL16⟩,fun L17 hL17=>?_⟩;refine b6.by (aK (xs:=ys)) (fun j σ Hj=>ak H16 Hj∧Hj L17=some (.lst ((ts.take j).map fun t=>V.int t.2.1))∧∃ y,σ=[y]) ⟨smu hL17,pG,_,rfl⟩ (fun j σ Hj _ z=>SqL.of (z.1 _ _ hL16)) ?_ ?_
     · rintro j x σ Hj hxj ⟨sj,hLj,y,rfl⟩;obtain⟨d',hd',htd'⟩:=hts16.get hxj;rw[gEM] at hd';obtain⟨t',ht',rfl⟩:=oMS.mp hd';obtain⟨a',rfl,ha'⟩:=dM htd';rw[aL,df];refine bx ⟨_,rfl,a',_,1,_,rfl,rfl,sj.seqT ha',pJ (j:=1) rfl,_,hLj,by rw[lMp,lTk];lia,aG sj hL17,?_,_,rfl⟩;rw[pG,tAO,ht'];simp
     · rintro σ Hj ⟨sj,hLj,y,rfl⟩;have e:ys.length=ts.length:=by rw[yl]
       rw[e,List.take_length] at hLj;refine⟨L17,_,rfl,.inl ⟨SqL.of hLj,fun l hl=>?_⟩⟩;have k18:=smu (o:=HO.tup (ts.map fun t=>V.int t.2.1)) hl;have t18:TD K (upd Hj l (.tup (ts.map fun t=>V.int t.2.1))) (.ref l) (.tuple (ts.map fun t=>.int t.2.1)):=by
        refine .tup (SqT.of pG) ?_;exact oQ ts
       generalize upd Hj l (.tup (ts.map fun t=>V.int t.2.1))=H18 at k18 t18 ⊢;have K18:=sj.trans k18;refine⟨_,rfl,ee,fun u hu'=>?_⟩;have k19:=smu (o:=HO.tup [V.str "fun",V.ref l,v]) hu';obtain⟨ok,ek⟩:=OkE.makeG (B:=sn) (n:=dp+1) (h:="fun") (sl:=["bounds","one"]) (ps:=[.tuple (ts.map fun t=>.int t.2.1),d]) (ks:=[d]) (by decide +kernel) (by decide +kernel) (.cons (vv hts3) (.cons fK .nil)) rfl (iJ (eB fun x hx=>by obtain⟨t,_,rfl⟩:=List.mem_map.mp hx;rfl) ok1.lay) (iJ (eE (n:=2*(dp+1)) fun x hx=>by obtain⟨t,_,rfl⟩:=List.mem_map.mp hx;exact Nat.zero_le _) ok1.dep1) (by show 1≤8;decide) (oC ok1) (wL hts3 ok1);exact q _ _ _ skv13 (D6.trans (ac.of (K18.trans k19))) ((x16.same (K18.trans k19)).more (by lia)) (.tup (SqT.of pG) (.cons (.str _) (.cons (t18.same k19) (.cons ((td16.same K18).same k19) .nil)))) ok (bv.node ek (fun x hx=>bv.kid (ds:=[d]) gr rfl x hx)) (wK hts3 hrg (by rw[htl];exact cn)) fw
end
section
variable {P:Program} {w:World} {K:Fg} {mg:SOV} {base:Heap}
abbrev sIn:Stmt:=top 26
abbrev nIn:List Str:=["_law_state","_law_path","_law_seen_here","_law_deep","_law_way","_law_found","_law_local"]
theorem yn:aB nIn dN (a7 sIn):=fsM
theorem zu {n:Nat} (D:Def K mg "_law_inner" sIn) (T:Blt mg) (ab:Fn P w K mg base "_law_pick" 2 ["_law_state","_law_many"] (fI P w K)) (ah:Fn P w K mg base "_law_lay" 1 ["_law_state","_law_words"] (fJ P w K)) (aU:Fn P w K mg base "_law_tell" 1 ["_law_state","_law_at","_law_thing"] (iQ P w K)) (cC:Fn P w K mg base "_law_seen" 1 ["_law_state","_law_seen_here","_law_is_set"] (mn P w K)) (dL:Fn P w K mg base "_law_number" 3 ["_law_state"] (mt P w K))
 (l9:Fn P w K mg base "_law_bound" (5*n+8) dN (xT P w K n)) (l4:Fn P w K mg base "_law_named" (5*n+8) jq (nD P w K (fun _=>True) n)) (kZ:Fn P w K mg base "_law_plain" (5*n+8) jq (nD P w K (fun y=>8≤y∧y<15) n)) (oF:Fn P w K mg base "_law_fun" (5*n+8) jq (nD P w K (fun _=>True) n)):Fn P w K mg base "_law_inner" (5*n+9) dN (xN P w K n):=by
 refine D.fn yn (fun vs H Q E h=>?_) (fun _ _ _ _ _ _ us hl=>by obtain⟨a,b,c,d,rfl⟩:=nR hl;rfl) (fun f cdv A outer s' H vs Q E hr h=>?_)
 · obtain⟨C,N,skv,pa,path,S,sn,dp,z,rfl,_⟩:=h;rfl
 · obtain⟨C,N,skv,pa,path,S,sn,dp,z,rfl,rfl,pre,few,fewG,hdp,hN,q⟩:=h;have nd:=yn.nd;have hu:=bX hr;have hz0:(1000000:Nat)<sizeLine:=by decide
   have hc:=dG dp;have hsl:=pre.sl;have hpl:=pre.pl;obtain⟨t3,h3,q3⟩:∃ t,PSs (cJ CX0 P w K mg base nIn "_law_inner" (a7 sIn) f cdv A outer s' H E).nox ((aW sIn).drop 3) t ∧
    ∀ (H1:Hp) (y:Int) (x5 x6:Option V),ac C.A H H1→SX P w K H1 C (N+1) skv→0≤y→y<18→(y<2∨0<dp∧1≤skv.2.2)→t {nx:=fun _ H'=>Q .non H',rt:=Q} [some (.ref C.A.s),some (.ref pa),some (.ref S),some (.int ((dp:Nat):Int)),some (.int y),x5,x6] H1:=by
    refine⟨_,(pE (aN (PW.pt (gn (pO iV (pv 4) pH (pP _)) (dS (pO aV (pv 4) pH (pP _))))) (pI (az (aa dL (hr.mono (c_f)) rfl (pA (pv 0) pC)))) aE) (pE (aN (pO iV (pv 4) pH (pP _)) (pI (az (aa l9 (hr.mono (eM)) rfl (pA (pv 0) (pA (pv 1) (pA (pv 2) (pA (pv 3) pC))))))) aE) (pE (aN (pO iV (pv 4) pH (pP _)) (pI (az (aa l4 (hr.mono (eM)) rfl (pA (pv 0) (pA (pv 1) (pA (pv 2) (pA (pv 3) (pA (pv 4) pC)))))))) aE) (pE (aN (pO iV (pv 4) pH (pP _)) (pI (az (aa kZ (hr.mono (eM)) rfl (pA (pv 0) (pA (pv 1) (pA (pv 2) (pA (pv 3) (pA (pv 4) pC)))))))) aE) (pI (az (aa oF (hr.mono (eM)) rfl (pA (pv 0) (pA (pv 1) (pA (pv 2) (pA (pv 3) (pA (pv 4) pC)))))))))))),fun H1 y x5 x6 kp1 x1 y0 y18 hy=>?_⟩;refine a0 fun Ex CA=>?_;have pre1:=pre.keep kp1 x1;have nb:∀ E',mt P w K [.ref C.A.s] H1 Q E':=fun E'=>⟨C,_,skv,rfl,x1,tF 4,fun v i H2 kp2 x2 td=>q v _ H2 skv (kp1.trans kp2) (x2.more (AH 4)) td (OkE.leaf (s:="number") (by decide +kernel) (by decide +kernel) (by decide +kernel) (iF (by decide +kernel)) (by decide +kernel) rfl rfl _) (bv.refl _ _ _ _) (CnD.plain (ks:=[]) rfl rfl) few⟩;refine⟨_,rfl,_,_,rfl,rfl,_,rfl,?_⟩;by_cases h2:y<2
    · exact pL (by simpa using h2) (bx ⟨_,rfl,nb E0⟩)
    · refine pK (by simpa using h2) ⟨_,rfl,rfl,_,rfl,?_⟩;by_cases h17:y=17
      · subst h17;exact pL (by decide) ⟨_,rfl,nb E0⟩
      · refine pK (by simp[h17]) ?_;refine CA _ _ ?_;obtain⟨d',rfl⟩:∃ d',dp=d'+1:=⟨dp-1,(Nat.sub_add_cancel (Or.resolve_left ‹y<2∨0<dp∧1≤skv.2.2› ‹¬ y<2›).1).symm⟩;have hcs:cst (d'+1)=8*cst d'+40:=rfl;have fin:oD P w K C sn path (d'+2) (N+1+8*cst d'+36) skv H1 Q:=fun v d H' skv' kp x td ok gr cn fw=>q v d H' skv' (kp1.trans kp) (x.more AI) td ok gr cn fw;have few3:Few (skv.2.1+3,skv.2.2)∧0≤skv.2.1:=⟨fewG (Or.resolve_left ‹y<2∨0<d'+1∧1≤skv.2.2› ‹¬ y<2›).2,few.1⟩;refine⟨_,rfl,_,_,rfl,rfl,_,rfl,?_⟩;by_cases h5:y<5
        · exact pL (by simpa using h5) ⟨_,rfl,_,rfl,_,rfl,_,rfl,C,_,skv,pa,path,S,sn,d',_,rfl,rfl,pre1,few3,tz,mS,fin⟩
        · refine pK (by simpa using h5) ⟨_,rfl,_,_,rfl,rfl,_,rfl,?_⟩;by_cases h8:y<8
          · exact pL (by simpa using h8) ⟨_,rfl,_,rfl,_,rfl,_,rfl,_,rfl,C,_,skv,pa,path,S,sn,d',_,_,rfl,rfl,trivial,pre1,few3,tz,mS,fin⟩
          · refine pK (by simpa using h8) ⟨_,rfl,_,_,rfl,rfl,_,rfl,?_⟩;by_cases h15:y<15
            · exact pL (by simpa using h15) ⟨_,rfl,_,rfl,_,rfl,_,rfl,_,rfl,C,_,skv,pa,path,S,sn,d',_,_,rfl,rfl,⟨by lia,h15⟩,pre1,few3,tz,mS,fin⟩
            · exact pK (by simpa using h15) ⟨_,rfl,_,rfl,_,rfl,_,rfl,_,rfl,C,_,skv,pa,path,S,sn,d',_,_,rfl,rfl,trivial,pre1,few3,tz,mS,fin⟩
   obtain⟨t2b,h2b,q2b⟩:∃ t,PSs (cJ CX0 P w K mg base nIn "_law_inner" (a7 sIn) f cdv A outer s' H E).nox (wv ((aW sIn).getD 2 p0)) t ∧
    ∀ (DD:eO) (H1:Hp) (y:Int),ac C.A H H1→SX P w K H1 C (N+1) skv→0≤y→y<18→(y<2∨0<dp∧1≤skv.2.2)→(∀ σ' H',t3 {nx:=fun _ H'=>Q .non H',rt:=Q} σ' H'→DD.nx σ' H')→(∀ v H',Q v H'→DD.rt v H')→t DD [some (.ref C.A.s),some (.ref pa),some (.ref S),some (.int ((dp:Nat):Int)),some (.int y),none,none] H1:=by
    refine⟨_,(pE (pN (i:=5) nd rfl (Or.inl rfl) (aa cC (hr.mono (c_f)) rfl (pA (pv 0) (pA (pv 2) (pA dW pC))))) (pI (aN (pO (dX hu) (pv 5) (ag pC) (pP _)) (pE (pN (i:=6) nd rfl (Or.inl rfl) (aq aH (pv 5) (aa ab (hr.mono (c_f)) rfl (pA (pv 0) (pA (bc T.len (pA (pv 5) pC)) pC))) (fun _ _=>rfl))) (pE (am (aa aU (hr.mono (c_f)) rfl (pA (pv 0) (pA (aa ah (hr.mono (c_f)) rfl (pA (pv 0) (pA (ag (pA (aq aF (pv 6) pH (fun _ _=>rfl)) pC)) pC))) (pA (au (pA pD (pA (pM hu (pv 0) pD (fun _ _=>rfl)) (pA (aq aF (pv 6) pH (fun _ _=>rfl)) pC)))) pC))))) (pI (az (au (pA pD (pA (aq aF (pv 6) pH (fun _ _=>rfl)) pC))))))) aE))),fun DD H1 y kp1 x1 y0 y18 hy hD hR=>?_⟩;refine a0 fun Ej Cm=>?_;have pre1:=pre.keep kp1 x1;refine⟨_,rfl,_,rfl,C,_,skv,S,sn,false,rfl,x1,pre1.se,b_p,fun W zs ts H2 s2 hW hW2 ht htl hmem=>?_⟩;refine Cm _ _ ?_;have htl':=ht.length;rw[lMp] at htl';refine⟨_,rfl,ef,fun e0 he=>?_⟩;have k3:=smu (o:=HO.lst []) he;refine⟨W,e0,zs,rfl,rfl,SqL.of (k3 _ _ hW2),SqL.of pG,_,rfl,?_⟩;have hW3:=k3 _ _ hW2;have ht3:=ht.same k3;generalize upd H2 e0 (.lst [])=H3 at k3 hW3 ht3 ⊢;have s3:=s2.trans k3;have x3:=x1.same s3;cases hzs:zs with
    | nil=>exact aZ (hD _ _ (q3 H3 y _ _ (kp1.trans (ac.of s3)) x3 y0 y18 hy))
    | cons z0 zr =>
     have hzl:0<zs.length:=by rw[hzs];exact Nat.succ_pos _
     refine bx ?_;refine a0 fun zQ qr=>?_;refine⟨_,rfl,_,rfl,_,rfl,W,_,rfl,.inl (SqL.of hW3),C,_,skv,_,rfl,x3,tF 1,b_z,fun r H4 r0 r1 kp4 x4=>?_⟩;have hW4:=x3.kL kp4 hW3 (x1.new hW);have ht4:=ht3.tk (x3.tk kp4);obtain⟨j,rfl⟩:=Int.eq_ofNat_of_zero_le r0;have hj:j<zs.length:=b_j;have hzj:zs[j]?=some zs[j]:=gEE hj;obtain⟨d0,hd0,td0⟩:=ht4.get hzj;rw[gEM] at hd0;obtain⟨t0,ht0,rfl⟩:=oMS.mp hd0;obtain⟨a,ea,ha⟩:=dM td0;rw[ea] at td0;refine⟨W,_,_,.ref a,rfl,rfl,SqL.of hW4,pJ (by rw[hzj,ea]),?_⟩;refine qr _ _ (a0 fun BQ wy=>?_);refine⟨_,rfl,_,rfl,_,rfl,a,_,0,_,rfl,rfl,ha,pJ (j:=0) rfl,eW,fun M hM=>?_⟩;have k5:=smu (o:=HO.lst [V.str t0.1]) hM;refine⟨C,_,skv,M,[t0.1],1,rfl,rfl,x4.same k5,pG,x4.new hM,tF 3,fun i5 H5 kp5 x5=>?_⟩;have kp5':=(ac.of k5).trans kp5;have td5:=td0.tk (x4.tk kp5');obtain⟨a',e,ha5⟩:=dM td5;cases e;refine⟨_,rfl,C.A.s,_,rfl,x5.rd.2.1,_,rfl,a,_,1,_,rfl,rfl,ha5,pJ (j:=1) rfl,ee,fun t ht'=>?_⟩;have k6:=smu (o:=HO.tup [V.str "local",V.int ((C.fn:Nat):Int),V.int t0.2.1]) ht';refine⟨C,_,skv,_,_,rfl,x5.same k6,tF 3,fun H6 kp6 x6=>?_⟩;refine wy _ _ ?_;have kp6':=(ac.of k6).trans kp6;obtain⟨a',e,ha6⟩:=dM (td5.tk (x5.tk kp6'));cases e;refine⟨_,rfl,a,_,1,_,rfl,rfl,ha6,pJ (j:=1) rfl,gu,fun u hu'=>?_⟩;have k7:=smu (o:=HO.tup [V.str "name",V.int t0.2.1]) hu';exact hR _ _ (q _ _ _ skv (kp1.trans ((ac.of s3).trans (kp4.trans (kp5'.trans (kp6'.trans (ac.of k7)))))) ((x6.same k7).more (AH 4)) (.tup (SqT.of pG) (.cons (.str _) (.cons (.int _) .nil))) (OkE.leafM (s:="meant") (by decide +kernel) (by decide +kernel) (by decide +kernel) (iF (by decide +kernel)) (by decide +kernel) rfl rfl _ (fun i z=>by cases (show some (PyData.int t0.2.1)=some (.int i) from z);exact hmem t0 (mGE ht0))) (bv.refl _ _ _ _) (CnD.plain (ks:=[]) rfl rfl) few)
   obtain⟨t2,h2,q2⟩:∃ t,PSs (cJ CX0 P w K mg base nIn "_law_inner" (a7 sIn) f cdv A outer s' H E).nox ((aW sIn).drop 2) t ∧
    ∀ (H1:Hp) (y:Int),ac C.A H H1→SX P w K H1 C (N+1) skv→0≤y→y<18→(y<2∨0<dp∧1≤skv.2.2)→t {nx:=fun _ H'=>Q .non H',rt:=Q} [some (.ref C.A.s),some (.ref pa),some (.ref S),some (.int ((dp:Nat):Int)),some (.int y),none,none] H1:=by
    refine⟨_,(pE (aN (PW.pt (gn (pO aV (pv 4) pH (pP _)) (dS (pO aV (pv 4) pH (pP _))))) h2b aE) h3),fun H1 y kp1 x1 y0 y18 hy=>?_⟩;refine⟨_,rfl,rfl,_,rfl,?_⟩;by_cases h1:y=1
    · exact pL (by simp[h1]) (bx (q2b _ H1 y kp1 x1 y0 y18 hy (fun _ _ z=>z) fun _ _ z=>z))
    · refine pK (by simp[h1]) ⟨_,rfl,rfl,_,rfl,?_⟩;by_cases h17:y=17
      · exact pL (by simp[h17]) (q2b _ H1 y kp1 x1 y0 y18 hy (fun _ _ z=>z) fun _ _ z=>z)
      · exact pK (by simp[h17]) (q3 H1 y _ _ kp1 x1 y0 y18 hy)
   refine⟨_,(pE (pN (i:=4) nd rfl (Or.inl rfl) (aa ab (hr.mono (c_f)) rfl (pA (pv 0) (pA pH pC)))) (pE (aN (PW.pt (gn (pO aV (pv 3) pH (pP _)) (dS (pO iV (pM hu (pv 0) pD (fun _ _=>rfl)) pH (pP _))))) (pI (pN (i:=4) nd rfl (Or.inl rfl) (aC dD (pv 4) pH))) aE) h2)),?_⟩;refine a0 fun qi ir=>?_;refine⟨_,rfl,C,N,skv,18,rfl,pre.x,b_n,by decide,fun r H1 r0 r1 kp1 x1=>?_⟩;refine ir _ _ ?_;have r2:0≤r % 2∧r % 2<2:=lC r 2 (by decide);refine⟨_,rfl,rfl,_,rfl,?_⟩;by_cases hd:dp=0
   · refine pL (by simp[hd]) (bx ?_);exact⟨_,rfl,_,_,rfl,rfl,by decide,q2 H1 _ kp1 x1 r2.1 (by lia) (.inl r2.2)⟩
   · refine pK (by simp;assumption) ?_;have hlf:=x1.getL;refine⟨_,rfl,C.A.s,_,rfl,hlf,_,_,rfl,rfl,_,rfl,?_⟩;by_cases hl1:skv.2.2<1
     · exact pL (by simpa using hl1) ⟨_,rfl,_,_,rfl,rfl,by decide,q2 H1 _ kp1 x1 r2.1 (by lia) (.inl r2.2)⟩
     · exact pK (by simpa using hl1) (q2 H1 r kp1 x1 r0 r1 (.inr ⟨by lia,by lia⟩))
end
theorem rX {P:Program} {w:World} {td ty tv:TE} {D:eO} {σ:St} {H:Hp}:tX P w td ty tv D σ H=tv σ H fun v H1=>td σ H1 fun x H2=>ty σ H2 fun y H3=>∃ d b kvs k,x=.ref d∧y=.ref b∧H3 d=some (DN P w d kvs)∧dJ H3 kvs∧cm H3 b k∧kvs.length<sizeLine∧D.nx σ (upd H3 d (DN P w d (putN kvs k b v))):=rfl
section
variable {P:Program} {w:World} {K:Fg} {mg:SOV} {base:Heap}
abbrev sEx:Stmt:=top 24
abbrev nEx:List Str:=["_law_state","_law_path","_law_seen_here","_law_deep","_law_first","_law_node","_law_e"]
theorem vy:aB nEx dN (a7 sEx):=fsM
theorem zD {n:Nat} (D:Def K mg "_law_expr" sEx) (T:Blt mg) (l6:Fn P w K mg base "_law_inner" (5*n+9) dN (xN P w K n)):Fn P w K mg base "_law_expr" (5*n+10) dN (kc P w K (n+1)):=by
 refine D.fn vy (fun vs H Q E h=>?_) (fun _ _ _ _ _ _ us hl=>by obtain⟨a,b,c,d,rfl⟩:=nR hl;rfl) (fun f cdv A outer s' H vs Q E hr h=>?_)
 · obtain⟨C,N,skv,pa,path,S,sn,dp,z,rfl,_⟩:=h;rfl
 · obtain⟨C,N,skv,pa,path,S,sn,dp,z,rfl,rfl,pre,few,hdp,hN,q⟩:=h;have nd:=vy.nd;have hu:=bX hr;have hu65:=hr.units65;have hu10:(A.deeper (PyProof.Rows.envOfC "_law_expr" (a7 sEx) s'.heap.objs.size f cdv)).units+10<cLine:=by lia
   have hz0:(1000000:Nat)<sizeLine:=by decide
   have hc:=dG dp;have hsl:=pre.sl;have hpl:=pre.pl;refine⟨_,(pE (pN (i:=4) nd rfl (Or.inl rfl) (bc T.len (pA (aq aH (pM hu (pv 0) pD (fun _ _=>rfl)) (pM hu (pv 0) pD (fun _ _=>rfl)) (fun _ _=>rfl)) pC))) (pE (pN (i:=5) nd rfl (Or.inl rfl) (au (pA (pM hu (pv 0) pD (fun _ _=>rfl)) (pA (pv 1) pC)))) (pE (bg hu (pM hu (pv 0) pD (fun _ _=>rfl)) (au (pA (pM hu (pv 0) pD (fun _ _=>rfl)) (pA (pv 4) pC))) (pv 5) rfl) (pE (mz hu10 (pM hu (pv 0) pD (fun _ _=>rfl)) (pv 5) (dU (own:=["_law_one"]) (outs:=[]) (te:=uZ (cP (tOp (nG K) (cq 0) (tC (.int 0))) (cP (tOp (nG K) (cq 0) (tC (.int 1))) iC))) rfl (aI.of (a7 sEx) nEx) (bu (pv 2)) (fun _ _ _ _=>⟨(ae (i:=0) nd1 rfl (Or.inl rfl)),bL,(au (pA (aq aF (pv 0) pH (fun _ _=>rfl)) (pA (aq aF (pv 0) pH (fun _ _=>rfl)) pC)))⟩)) rfl) (pE (bg hu (pv 0) pD (aC ck (pM hu (pv 0) pD (fun _ _=>rfl)) pH) rfl) (pE (pN (i:=6) nd rfl (Or.inl rfl) (aa l6 (hr.mono (eM)) rfl (pA (pv 0) (pA (pv 1) (pA (pv 2) (pA (pv 3) pC)))))) (pE (mz hu10 (pM hu (pv 0) pD (fun _ _=>rfl)) (pv 5) (au (pA (pM hu (pv 0) pD (fun _ _=>rfl)) (pA (pv 4) (pA (aC ck (bc T.len (pA (aq aH (pM hu (pv 0) pD (fun _ _=>rfl)) (pM hu (pv 0) pD (fun _ _=>rfl)) (fun _ _=>rfl)) pC)) (pv 4)) pC)))) rfl) (pI (az (pv 6)))))))))),?_⟩;dsimp only[bJ,bN,bM];refine a0 fun Ew Cz=>?_;obtain⟨rp,rf,rr,rn,re,rs,rv,rat,ws,hws⟩:=pre.x.rd;refine⟨_,rfl,C.A.s,_,rfl,rr,_,rfl,C.A.s,_,rfl,rp,C.A.ro,_,_,.ref C.r,rfl,rfl,SqL.of rv,rat,C.r,_,rfl,.inl (SqL.of hws),?_⟩;refine Cz _ _ (a0 fun Eu Cw=>?_);refine⟨_,rfl,C.A.s,_,rfl,rf,_,rfl,gu,fun b hb=>?_⟩;refine Cw _ _ (a0 fun Et Cv=>?_);have k1:=smu (o:=HO.tup [V.int ((C.fn:Nat):Int),V.ref pa]) hb;have hb1:(upd H b (.tup [V.int ((C.fn:Nat):Int),V.ref pa])) b=some (.tup [V.int ((C.fn:Nat):Int),V.ref pa]):=pG;generalize upd H b (.tup [V.int ((C.fn:Nat):Int),V.ref pa])=H1 at k1 hb1 ⊢;have pre1:=pre.same k1;have nb1:=pre1.pv.node hb1;obtain⟨rp,rf,rr,rn,re,rs,rv,rat,_⟩:=pre1.x.rd;refine⟨_,rfl,_,rfl,C.A.s,_,rfl,rn,_,rfl,C.A.s,_,rfl,rp,_,rfl,gu,fun t ht=>?_⟩;have k2:=smu (o:=HO.tup [V.int ((C.p:Nat):Int),V.int ((ws.map V.str).length:Nat)]) ht;have ht2:(upd H1 t (.tup [V.int ((C.p:Nat):Int),V.int ((ws.map V.str).length:Nat)])) t=some (.tup [V.int ((C.p:Nat):Int),V.int ((ws.map V.str).length:Nat)]):=pG;generalize upd H1 t (.tup [V.int ((C.p:Nat):Int),V.int ((ws.map V.str).length:Nat)])=H2 at k2 ht2 ⊢;have pre2:=pre1.same k2;obtain⟨H3,dp3,kp3,x3⟩:=pre2.x.noded ht2 (.ref b) (b_n);refine⟨C.A.no,H3,rfl,dp3,?_⟩;refine Cv _ _ (a0 fun El Co=>?_);have pre3:=pre2.keep kp3 x3;have nb3:cm H3 b (nk C.fn path):=(nb1.keep fun c ys z=>k2 _ _ z).keep fun c ys z=>pre2.x.kT kp3 z;have rE:ac C.A H H3:=(ac.of (k1.trans k2)).trans kp3;rw[rX,cj];obtain⟨xs,sv,g1,g2,g3,g4⟩:=pre3.se;have xl:=g2.length;rw[lMp] at xl;have g3l:=congrArg List.length g3;rw[lMp] at g3l;refine⟨_,rfl,S,rfl,⟨_,SqL.of g1⟩,fun L hL=>?_⟩;refine b6.by (aK (xs:=xs)) (fun j σ Hj=>ak H3 Hj∧(∃ ys,Hj L=some (.lst ys)∧ys.length≤j)∧∃ y,σ=[y]) ⟨smu hL,⟨[],pG,Nat.le_refl _⟩,_,rfl⟩ (fun j σ Hj _ z=>SqL.of (z.1 _ _ g1)) ?_ ?_
   · rintro j x σ Hj hxj ⟨sj,⟨ys,hLj,hyl⟩,y,rfl⟩;have hj:j<xs.length:=(gES.mp hxj).1;obtain⟨d',hd',htd'⟩:=g2.get hxj;rw[gEM] at hd';obtain⟨t',ht',rfl⟩:=oMS.mp hd';obtain⟨a',rfl,ha'⟩:=dM htd';rw[aL,df];refine bx ⟨_,rfl,a',_,0,_,rfl,rfl,sj.seqT ha',pJ (j:=0) rfl,_,rfl,a',_,1,_,rfl,rfl,sj.seqT ha',pJ (j:=1) rfl,gu,fun u hu'=>?_⟩;have ku:=smu (o:=HO.tup [V.str t'.1,V.int t'.2.1]) hu';exact⟨ys,ku _ _ hLj,by lia,aG (sj.trans ku) hL,⟨_,pG,by simp;assumption⟩,_,rfl⟩
   · rintro σ Hj ⟨sj,_,y,rfl⟩;have pre4:=pre3.same sj;have nb4:cm Hj b (nk C.fn path):=nb3.keep fun c ys z=>sj _ _ z;obtain⟨rp,rf,rr,rn,re,rs,rv,rat,_⟩:=pre4.x.rd;obtain⟨kvs,e1,e2,e3,kp5,x5⟩:=pre4.x.seend nb4 (.ref L) (CL 1);refine⟨_,rfl,C.A.s,_,rfl,re,_,rfl,C.A.se,b,kvs,nk C.fn path,rfl,rfl,e1,e2,nb4,e3,?_⟩;refine Co _ _ (a0 fun zQ qr=>?_);have pre5:=pre4.keep kp5 x5;have nb5:=nb4.keep fun c ys z=>pre4.x.kT kp5 z;generalize upd Hj C.A.se (DN P w C.A.se (putN kvs (nk C.fn path) b (.ref L)))=H5 at kp5 x5 pre5 nb5 ⊢;have hlf:=x5.getL;obtain⟨H6,dp6,kp6,x6⟩:=x5.putL (skv.2.2-1);refine⟨_,rfl,C.A.s,_,rfl,hlf,_,_,rfl,rfl,_,rfl,C.A.s,H6,rfl,dp6,?_⟩;refine qr _ _ (a0 fun E8 Cc=>?_);have pre6:=pre5.keep kp6 x6;have nb6:=nb5.keep fun c ys z=>pre5.x.kT kp6 z;have oH:=rE.trans ((ac.of sj).trans (kp5.trans kp6));refine⟨_,rfl,_,rfl,_,rfl,_,rfl,C,_,_,pa,path,S,sn,dp,_,rfl,rfl,pre6,wF few,sZ few,by assumption,ue,fun v d H7 skv7 kp7 x7 td ok gr cn fw=>?_⟩;refine Cc _ _ (a0 fun E5 C9=>?_);have nb7:=nb6.keep fun c ys z=>pre6.x.kT kp7 z;obtain⟨rp,rf,rr,rn,re,rs,rv,rat,ws',hws'⟩:=x7.rd;refine⟨_,rfl,C.A.s,_,rfl,rp,_,rfl,_,rfl,C.A.s,_,rfl,rr,_,rfl,C.A.s,_,rfl,rp,C.A.ro,_,_,.ref C.r,rfl,rfl,SqL.of rv,rat,C.r,_,rfl,.inl (SqL.of hws'),_,rfl,_,_,rfl,rfl,ee,fun u hu'=>?_⟩;have k8:=smu (o:=HO.tup [V.int ((C.p:Nat):Int),V.int ((ws.map V.str).length:Nat),V.int (((ws'.map V.str).length:Nat)-((ws.map V.str).length:Nat))]) hu';generalize upd H7 u (.tup [V.int ((C.p:Nat):Int),V.int ((ws.map V.str).length:Nat),V.int (((ws'.map V.str).length:Nat)-((ws.map V.str).length:Nat))])=H8 at k8 ⊢;have x8:=x7.same k8;have nb8:cm H8 b (nk C.fn path):=nb7.keep fun c ys z=>k8 _ _ z;obtain⟨rp,rf,rr,rn,re,rs,rv,rat,_⟩:=x8.rd;obtain⟨e1,e2,e3,kp9,x9⟩:=x8.spanned nb8 (.ref u) (ue);refine⟨_,rfl,C.A.s,_,rfl,rs,_,rfl,C.A.sp,b,skv7.1,nk C.fn path,rfl,rfl,e1,e2,nb8,e3,?_⟩;refine C9 _ _ ?_;refine⟨_,rfl,q v d _ _ (oH.trans (kp7.trans ((ac.of k8).trans kp9))) (x9.more AJ) ((td.same k8).tk (x8.tk kp9)) ok (fun x hx=>(gr.put b _) x hx) cn fw⟩
theorem vY (D:Def K mg "_law_expr" sEx):Fn P w K mg base "_law_expr" 5 dN (kc P w K 0):=by
 refine D.fn vy (fun vs H Q E h=>?_) (fun _ _ _ _ _ _ us hl=>by obtain⟨a,b,c,d,rfl⟩:=nR hl;rfl) (fun f cdv A outer s' H vs Q E hr h=>?_)
 · obtain⟨C,N,skv,pa,path,S,sn,dp,z,rfl,_⟩:=h;rfl
 · obtain⟨C,N,skv,pa,path,S,sn,dp,z,rfl,rfl,pre,few,hdp,_⟩:=h;exact absurd hdp (Nat.not_lt_zero _)
structure Exs (K:Fg) (mg:SOV):Prop where
  ex:Def K mg "_law_expr" sEx
  inr:Def K mg "_law_inner" sIn
  so:Def K mg "_law_some" sSo
  bo:Def K mg "_law_bound" sBo
  na:Def K mg "_law_named" sNa
  re:Def K mg "_law_record" sRe
  pl:Def K mg "_law_plain" sPl
  fu:Def K mg "_law_fun" sFu
theorem vX (D:Exs K mg) (T:Blt mg) (ab:Fn P w K mg base "_law_pick" 2 ["_law_state","_law_many"] (fI P w K)) (ah:Fn P w K mg base "_law_lay" 1 ["_law_state","_law_words"] (fJ P w K)) (aU:Fn P w K mg base "_law_tell" 1 ["_law_state","_law_at","_law_thing"] (iQ P w K)) (cC:Fn P w K mg base "_law_seen" 1 ["_law_state","_law_seen_here","_law_is_set"] (mn P w K)) (dL:Fn P w K mg base "_law_number" 3 ["_law_state"] (mt P w K)) (c6:Fn P w K mg base "_law_name" 3 ["_law_state"] (mq P w K)) (c9:Fn P w K mg base "_law_bind" 2 ["_law_state","_law_name_here","_law_is_var"] (iR P w K)) (bt:Fn P w K mg base "_law_choices" 2 ["_law_state","_law_sort"] (mw P w K)) (cy:Fn P w K mg base "_law_unlike" 4 ["_law_state","_law_others","_law_most"] (oS P w K)):∀ n,Fn P w K mg base "_law_expr" (5*n+5) dN (kc P w K n):=by
 intro n
 induction n with
 | zero=>exact vY D.ex
 | succ n ih =>
  have so:=yZ D.so T ih;have re:=za D.re T ab ah aU bt so;have bo:=zH D.bo T ab ah c6 c9 ih;have na:=zi D.na T ab ah aU c6 cC bt so re;have pl:=zd D.pl T ab ah so;have fu:=zA D.fu T ab ah cy c9 so ih;exact zD D.ex T (zu D.inr T ab ah aU cC dL bo na pl fu)
end
theorem nO (kvs:List (Str×V)):∀ (acc:List (Key×V)) (m:Str→Option V),(∀ k:Str,bP acc (.inr k)=m k)→∀ k:Str,bP (bQ acc (kvs.map fun p=>(Sum.inr p.1,p.2))) (.inr k)=(kvs.foldl (fun m p=>aJ m p.1 p.2) m) k:=by
 induction kvs with
 | nil=>exact fun acc m h=>h
 | cons p r ih =>
  intro acc m h;refine ih (bS acc (.inr p.1) p.2) (aJ m p.1 p.2) fun k=>?_;rw[dl,h k];unfold aJ;by_cases e:k=p.1
  · rw[if_pos (by rw[e]),if_pos e]
  · rw[if_neg (by simpa using e),if_neg e]
theorem StV.made {H:Hp} {f:Addr} (kvs:List (Str×V)) {n:Nat} (hn:kvs.length≤n):StV (upd H f (.dK (bQ [] (kvs.map fun p=>(Sum.inr p.1,p.2))))) f n (kvs.foldl (fun m p=>aJ m p.1 p.2) fun _=>none):=by
 refine⟨_,pG,?_,nO kvs [] _ fun k=>rfl⟩;have:=cF (kvs.map fun p=>((Sum.inr p.1:Key),p.2)) [];rw[lMp] at this;show (bQ [] _).length≤n;simp at this;exact b_t
theorem StV.wide {H:Hp} {f:Addr} {n n':Nat} {m:Str→Option V} (h:StV H f n m) (hn:n≤n'):StV H f n' m:=by
 obtain⟨kvs,h1,h2,h3⟩:=h;exact⟨kvs,h1,Nat.le_trans h2 hn,h3⟩
def bw (so:Str) (x:Addr×Frm):Bool:=decide (x.2.sort=so)
section
variable {P:Program} {w:World} {K:Fg} {mg:SOV} {base:Heap}
abbrev sFo:Stmt:=top 16
abbrev nFo:List Str:=["_law_state","_law_part","_law_number_here","_law_head","_law_name_here","_law_sort","_law_taken","_law_opened","_law_inner_here","_law_count"]
abbrev vJ:List Str:=["_law_state","_law_part","_law_number_here"]
theorem yt:aB nFo vJ (a7 sFo):=fsM
theorem BN:(["_law_form_here","_law_part","_law_sort","_law_name_here"]:List Str).Nodup:=by decide +kernel
theorem BM:(["_law_form_here","_law_name_here"]:List Str).Nodup:=by decide +kernel
theorem BJ:(["_law_form_here","_law_sort"]:List Str).Nodup:=by decide +kernel
structure AU (H0 H:Hp) (f:Addr) (fm:Frm) (part:Int) (fl:FL):Prop where
  fv:iz H f fm
  pt:fm.part=part
  new:H0 f=none
  newI:H0 fm.inner=none
  inn:fm.inn.length≤4∧(fm.sort="record"→0<fm.inn.length)
  so:fm.sort="record"∨fm.sort="function"
  num:fm.number=(((fl.filter (bw fm.sort)).length:Nat):Int)
  few:∃ kvs,H f=some (.dK kvs)∧kvs.length≤10
  lay:(PyData.str fm.head).canLay0=true
inductive uG (K:Fg) (vs:List V) (H:Hp) (Q:VK):Prop
  | mk (s a fo:Addr) (n:Nat) (m:Str→Option V) (ns:List Int) (k:Int) (fl:FL) (part:Int) (num:Nat) (g0_:vs=[.ref s,.int part,.int ((num:Nat):Int)]) (g1_:num<16) (g2_:Pk K H s n m a ns k) (g3_:(KL K a ns∨∃ b,H a=some b)) (g4_:k<800000) (g5_:m "forms"=some (.ref fo)) (g6_:H fo=some (.lst (fl.map fun x=>V.ref x.1))) (g7_:FsV H fl) (g8_:fl.length≤100) (g9_:(∀ x∈fl,x.1≠s)) (g10_:∀ f fm k' H',Smf s H H'→AU H H' f fm part fl→k≤k'→k'≤k+20→Pk K H' s n (aJ m "k" (.int k')) a ns k'→Q (.ref f) H'):uG K vs H Q
def xQ (K:Fg):Sp:=fun vs H Q _=>uG K vs H Q
theorem FsV.smf {H H':Hp} {s:Addr} {fl:FL} (h:FsV H fl) (sm:Smf s H H') (ne:∀ x∈fl,x.1≠s) (hs:∃ kvs,H s=some (.dK kvs)):FsV H' fl:=fun x hx=>by
 obtain⟨⟨m,⟨kvs,h1,h2⟩,r⟩,i⟩:=h x hx;refine⟨⟨m,⟨kvs,sm _ _ (ne x hx) h1,h2⟩,r⟩,sm _ _ (fun e=>?_) i⟩;obtain⟨kv,hk⟩:=hs;rw[e,hk] at i;cases i
theorem zB (D:Def K mg "_law_form" sFo) (T:Blt mg) (ab:Fn P w K mg base "_law_pick" 2 ["_law_state","_law_many"] (iD K)) (cy:Fn P w K mg base "_law_unlike" 4 ["_law_state","_law_others","_law_most"] (vm K)):Fn P w K mg base "_law_form" 5 vJ (xQ K):=by
 refine D.fn yt (fun vs H Q E h=>?_) (fun _ _ _ _ _ _ us hl=>by obtain⟨a,b,c,rfl⟩:=fO hl;rfl) (fun f cdv A outer s' H vs Q E hr h=>?_)
 · obtain⟨s,a,fo,n,m,ns,k,fl,part,num,rfl,_⟩:=h;rfl
 · obtain⟨s,a,fo,n,m,ns,k,fl,part,num,rfl,hnum,pk,al,hk,hfo,hF,hfs,hfl,hne,q⟩:=h;have nd:=yt.nd;have hu:=bX hr;have hz0:(1000000:Nat)<sizeLine:=by decide
   have hsd:∃ kvs,H s=some (.dK kvs):=by obtain⟨kvs,h1,_⟩:=pk.st;exact⟨kvs,h1⟩
   have nes:∀ {b:Addr} {xs:List V},H b=some (.lst xs)→b≠s:=fun {b xs} h e=>by
    obtain⟨kvs,h1⟩:=hsd;rw[e,h1] at h;cases h
   have frm:∀ {v:V} {k':Int} {H1:Hp},Smf s H H1→Pk K H1 s n (aJ m "k" (.int k')) a ns k'→bR H1 s (.str "forms") (some (.ref fo))∧H1 fo=some (.lst (fl.map fun x=>V.ref x.1))∧FsV H1 fl:=fun {v k' H1} sm p=>⟨p.st.get (by rw[aj _ _ (by decide +kernel)];exact hfo),sm _ _ (nes hF) hF,hfs.smf sm hne hsd⟩;obtain⟨t9,h9,q9⟩:∃ t,PSs (cJ CX0 P w K mg base nFo "_law_form" (a7 sFo) f cdv A outer s' H E).nox ((aW sFo).drop 9) t ∧
    ∀ (H1:Hp) (k1:Int) (hd nm so:Str) (I:Addr) (zs:List Str) (x6 x7:Option V),Smf s H H1→Pk K H1 s n (aJ m "k" (.int k1)) a ns k1→k≤k1→k1≤k+20→((so="record"∨so="function")∧(PyData.str hd).canLay0=true)→H I=none→H1 I=some (.lst (zs.map V.str))→zs.length≤4→(so="record"→0<zs.length) →
     t {nx:=fun _ H'=>Q .non H',rt:=Q} [some (.ref s),some (.int part),some (.int ((num:Nat):Int)),some (.str hd),some (.str nm),some (.str so),x6,x7,some (.ref I),none] H1:=by
    refine⟨_,(pE (pN (i:=9) nd rfl (Or.inl rfl) (bc T.len (pA (dU (own:=["_law_form_here"]) (outs:=[ (5,"_law_sort") ]) rfl (aI.of (a7 sFo) nFo) (bu (pM hu (pv 0) pD (fun _ _=>rfl))) (fun _ _ _ _=>⟨(ae (i:=0) BJ rfl (Or.inl rfl)),(cx (pO aV (pM hu (pv 0) pD (fun _ _=>rfl)) (pv 1) (pP _))),(pv 0)⟩)) pC))) (pI (az (sA (bF pD (pv 1) (bF pD (pv 3) (bF pD (pv 5) (bF pD (pv 4) (bF pD (pv 8) (bF pD (pv 9) mB)))))) rfl rfl (by simp) (by decide))))),fun H1 k1 hd nm so I zs x6 x7 sm pk1 kl kh hso hI hI1 hzl hz1=>?_⟩;refine a0 fun E7 Cb=>?_;obtain⟨g1,g2,g3⟩:=frm (v:=.non) sm pk1;dsimp only[bJ,bN,bM];rw[cz,iS,cD,cj];refine⟨_,rfl,s,_,rfl,g1,fo,rfl,⟨_,SqL.of g2⟩,fun L hL=>?_⟩;refine b6.by (aK (xs:=fl.map fun x=>V.ref x.1)) (fun j σ Hj=>ak H1 Hj∧Hj L=some (.lst (((fl.take j).filter (bw so)).map fun x=>V.ref x.1))∧∃ y,σ=[y,some (.str so)]) ⟨smu hL,pG,_,rfl⟩ (fun j σ Hj _ z=>SqL.of (z.1 _ _ g2)) ?_ ?_
    · rintro j x σ Hj hxj ⟨sj,hLj,y,rfl⟩;rw[gEM] at hxj;obtain⟨fx,hfx,rfl⟩:=oMS.mp hxj;obtain⟨⟨mf,stf,f1,f2,f3,f4,f5,f6⟩,_⟩:=(g3 fx (mGE hfx)).same sj;have hstep:=dw (bw so) hfx;have hlen:((fl.take j).filter (bw so)).length≤1000:=Nat.le_trans (List.length_filter_le _ _) (by rw[lTk];exact tE);rw[aL];refine⟨_,rfl,fx.1,_,rfl,stf.get f3,_,rfl,rfl,_,rfl,?_⟩;by_cases h1:fx.2.sort=so
      · have ho:bw so fx=true:=by unfold bw;simp[h1]
        exact pL (by simp[h1]) ⟨_,rfl,_,hLj,by rw[lMp];exact oz,aG sj hL,by rw[pG,hstep,ho];simp,_,rfl⟩
      · have ho:bw so fx=false:=by unfold bw;simp[h1]
        exact pK (by simp[h1]) ⟨sj,by rw[hstep,ho];simpa using hLj,_,rfl⟩
    · rintro σ Hj ⟨sj,hLj,y,rfl⟩;rw[lMp,List.take_length] at hLj;refine⟨L,_,rfl,.inl (SqL.of hLj),?_⟩;refine Cb _ _ ?_;refine fun p hp=>?_;have k2:=smu (o:=HO.dK []) hp;refine⟨_,rfl,_,rfl,_,rfl,_,rfl,_,rfl,_,rfl,pG,[(.inr "part",.int part),(.inr "head",.str hd),(.inr "sort",.str so),(.inr "name",.str nm),(.inr "inner",.ref I),(.inr "number",.int _)],rfl,by show 6≤15;decide,?_⟩;rw[mj];have st:=StV.made (H:=Hj) (f:=p) [("part",.int part),("head",.str hd),("sort",.str so),("name",.str nm),("inner",.ref I),("number",.int ((((fl.filter (bw so)).map fun x=>V.ref x.1).length:Nat):Int))] (n:=10) (by show 6≤10;decide);have e0:(upd Hj p (.dK (bQ [] [(.inr "part",.int part),(.inr "head",.str hd),(.inr "sort",.str so),(.inr "name",.str nm),(.inr "inner",.ref I),(.inr "number",.int ((((fl.filter (bw so)).map fun x=>V.ref x.1).length:Nat):Int))])))=(upd Hj p (.dK (bQ [] (([("part",.int part),("head",.str hd),("sort",.str so),("name",.str nm),("inner",.ref I),("number",.int ((((fl.filter (bw so)).map fun x=>V.ref x.1).length:Nat):Int))]:List (Str×V)).map fun p=>((Sum.inr p.1:Key),p.2))))):=rfl;rw[e0];have k3:=smu (o:=HO.dK (bQ [] (([("part",.int part),("head",.str hd),("sort",.str so),("name",.str nm),("inner",.ref I),("number",.int ((((fl.filter (bw so)).map fun x=>V.ref x.1).length:Nat):Int))]:List (Str×V)).map fun p=>((Sum.inr p.1:Key),p.2)))) hp;generalize (upd Hj p (.dK (bQ [] (([("part",.int part),("head",.str hd),("sort",.str so),("name",.str nm),("inner",.ref I),("number",.int ((((fl.filter (bw so)).map fun x=>V.ref x.1).length:Nat):Int))]:List (Str×V)).map fun p=>((Sum.inr p.1:Key),p.2)))))=H3 at st k3 ⊢;have K3:=sj.trans k3;have hps:p≠s:=fun e=>by
       obtain⟨kvs,h1,_⟩:=pk1.st;have:=sj _ _ h1;rw[← e,hp] at this;cases this
      refine q p ⟨part,hd,so,nm,I,zs,_⟩ k1 H3 (sm.trans (Smf.of K3)) ⟨⟨⟨_,st.wide (by decide),rfl,rfl,rfl,rfl,rfl,rfl⟩,K3 _ _ hI1⟩,rfl,?_,hI,⟨hzl,hz1⟩,hso.1,by rw[lMp],by obtain⟨kvs,h1,h2,_⟩:=st;exact⟨kvs,h1,h2⟩,hso.2⟩ kl kh (pk1.same K3);exact sm.none (ak.free sj hp) hps
   obtain⟨t7,h7,q7⟩:∃ t,PSs (cJ CX0 P w K mg base nFo "_law_form" (a7 sFo) f cdv A outer s' H E).nox ((aW sFo).drop 7) t ∧
    ∀ (H1:Hp) (k1:Int) (hd nm so:Str) (x6 x7:Option V),Smf s H H1→Pk K H1 s n (aJ m "k" (.int k1)) a ns k1→k≤k1→k1≤k+2→((so="record"∧hd="record"∨so="function"∧hd≠"record")∧(PyData.str hd).canLay0=true) →
     t {nx:=fun _ H'=>Q .non H',rt:=Q} [some (.ref s),some (.int part),some (.int ((num:Nat):Int)),some (.str hd),some (.str nm),some (.str so),x6,x7,none,none] H1:=by
    refine⟨_,(pE (pN (i:=8) nd rfl (Or.inl rfl) (aa cy (hr.mono (by decide)) rfl (pA (pv 0) (pA (ag pC) (pA pH pC))))) (pE (aN (PW.pt (b8 (pO aV (pv 3) pD (pP _)) (bn (pO (jw hu) (pv 8) (ag pC) (pP _))))) (pI (pN (i:=8) nd rfl (Or.inl rfl) (ag (pA pD pC)))) aE) h9)),fun H1 k1 hd nm so x6 x7 sm pk1 kl kh hso=>?_⟩;refine a0 fun DK Aq=>?_;refine⟨_,rfl,ef,fun O hO=>?_⟩;have k2:=smu (o:=HO.lst []) hO;have al2:KL K a ns∨∃ b,(upd H1 O (.lst [])) a=some b:=al.imp_right fun ⟨b,hb⟩=>⟨b,k2 _ _ (sm _ _ pk.ne hb)⟩;refine⟨s,a,O,n,_,ns,k1,[],4,rfl,pk1.same k2,al2,by lia,pG,by decide,fun W zs k' H3 c1 c2 hzl hzn hW hW3 sm3 p3=>?_⟩;refine Aq _ _ ?_;rw[bW] at p3;have sm3':Smf s H H3:=sm.trans ((Smf.of k2).trans sm3);have hs2:=(pk1.same k2).st.ne hW;have hWn:H W=none:=sm.none (ak.free k2 hW) hs2;refine⟨_,rfl,rfl,_,rfl,?_⟩;by_cases hh:hd="record"
    · refine pL (by simp[hh]) ⟨_,rfl,ef,fun e0 he=>?_⟩;have k4:=smu (o:=HO.lst []) he;refine⟨W,e0,_,rfl,rfl,SqL.of (k4 _ _ hW3),SqL.of pG,_,rfl,?_⟩;generalize upd H3 e0 (.lst [])=H4 at k4 ⊢;have so1:so="record":=hso.1.elim (fun z=>z.1) fun z=>absurd hh z.2;cases zs with
      | nil =>
       refine bx ⟨eW,fun Z hZ=>?_⟩;have k5:=smu (o:=HO.lst [V.str "z"]) hZ;have hZs:=(p3.same k4).st.ne hZ;have hZn:H Z=none:=sm3'.none (ak.free k4 hZ) hZs;exact q9 _ k' hd nm so Z ["z"] _ _ (sm3'.trans (Smf.of (k4.trans k5))) (p3.same (k4.trans k5)) (by lia) (by lia) ⟨.inl so1,hso.2⟩ hZn pG (by decide) (fun _=>by decide)
      | cons z0 zr =>
       exact aZ (q9 _ k' hd nm so W (z0::zr) _ _ (sm3'.trans (Smf.of k4)) (p3.same k4) (by lia) (by lia) ⟨.inl so1,hso.2⟩ hWn (k4 _ _ hW3) hzl (fun _=>Nat.succ_pos _))
    · refine pK (by simp[hh]) (aZ ?_);have so1:so="function":=hso.1.elim (fun z=>absurd z.2 hh) fun z=>z.1;exact q9 _ k' hd nm so W zs _ _ sm3' p3 (by lia) (by lia) ⟨.inr so1,hso.2⟩ hWn hW3 hzl (fun e=>by rw[so1] at e;exact absurd e (by decide +kernel))
   obtain⟨t4,h4,q4⟩:∃ t,PSs (cJ CX0 P w K mg base nFo "_law_form" (a7 sFo) f cdv A outer s' H E).nox ((aW sFo).drop 4) t ∧
    ∀ (H1:Hp) (k1:Int) (hd nm so:Str),Smf s H H1→Pk K H1 s n (aJ m "k" (.int k1)) a ns k1→k≤k1→k1≤k+2→((so="record"∧hd="record"∨so="function"∧hd≠"record")∧(PyData.str hd).canLay0=true) →
     t {nx:=fun _ H'=>Q .non H',rt:=Q} [some (.ref s),some (.int part),some (.int ((num:Nat):Int)),some (.str hd),some (.str nm),some (.str so),none,none,none,none] H1:=by
    refine⟨_,(pE (eR (i0:=6) (own:=["_law_form_here"]) (outs:=[ (1,"_law_part"),(5,"_law_sort"),(4,"_law_name_here") ]) rfl (aI.of (a7 sFo) nFo) (bu (pM hu (pv 0) pD (fun _ _=>rfl))) (fun _ _ _ _=>⟨(ae (i:=0) BN rfl (Or.inl rfl)),(cx (PW.pt (b8 (pO aV (pM hu (pv 0) pD (fun _ _=>rfl)) (pv 1) (pP _)) (b8 (pO aV (pM hu (pv 0) pD (fun _ _=>rfl)) (pv 2) (pP _)) (bn (pO aV (pM hu (pv 0) pD (fun _ _=>rfl)) (pv 3) (pP _))))))),(pv 0)⟩) nd rfl rfl) (pE (eR (i0:=7) (own:=["_law_form_here"]) (outs:=[ (4,"_law_name_here") ]) rfl (aI.of (a7 sFo) nFo) (bu (pM hu (pv 0) pD (fun _ _=>rfl))) (fun _ _ _ _=>⟨(ae (i:=0) BM rfl (Or.inl rfl)),(cx (PW.pt (b8 (pO aV (pM hu (pv 0) pD (fun _ _=>rfl)) pD (pP _)) (bn (pO aV (pM hu (pv 0) pD (fun _ _=>rfl)) (pv 1) (pP _)))))),(pv 0)⟩) nd rfl rfl) (pE (aN (PW.pt (gn (pO (dX hu) (pv 6) (ag pC) (pP _)) (dS (PW.pt (b8 (pO aV (pv 3) pD (pP _)) (bn (pO (dX hu) (pv 7) (ag pC) (pP _)))))))) (pI (pN (i:=4) nd rfl (Or.inr rfl) (aC lA pD (aq qo pD (pv 2) (fun _ _=>rfl))))) aE) h7))),fun H1 k1 hd nm so sm pk1 kl kh hso=>?_⟩;refine a0 fun DF Am=>?_;obtain⟨g1,g2,g3⟩:=frm (v:=.non) sm pk1;dsimp only[bJ,bN,bM];rw[cz,cj];refine⟨_,rfl,s,_,rfl,g1,fo,rfl,⟨_,SqL.of g2⟩,fun L hL=>?_⟩;refine b6.by (aK (xs:=fl.map fun x=>V.ref x.1)) (fun j σ Hj=>ak H1 Hj∧(∃ ys,Hj L=some (.lst ys)∧ys.length≤j)∧∃ y,σ=[y,some (.int part),some (.str so),some (.str nm)]) ⟨smu hL,⟨[],pG,Nat.le_refl _⟩,_,rfl⟩ (fun j σ Hj _ z=>SqL.of (z.1 _ _ g2)) ?_ ?_
    · rintro j x σ Hj hxj ⟨sj,⟨ys,hLj,hyl⟩,y,rfl⟩;have hj:j<fl.length:=by have:=(gES.mp hxj).1;rwa [lMp] at this
      rw[gEM] at hxj;obtain⟨fx,hfx,rfl⟩:=oMS.mp hxj;obtain⟨⟨mf,stf,f1,f2,f3,f4,f5,f6⟩,_⟩:=(g3 fx (mGE hfx)).same sj;rw[aL];refine⟨_,rfl,fx.1,_,rfl,stf.get f1,_,rfl,rfl,_,rfl,?_⟩;split
      · refine⟨_,rfl,fx.1,_,rfl,stf.get f3,_,rfl,rfl,_,rfl,?_⟩;split
        · refine⟨_,rfl,fx.1,_,rfl,stf.get f4,_,rfl,rfl,_,rfl,?_⟩;split
          · exact⟨_,rfl,_,hLj,mR,aG sj hL,⟨_,pG,by simp;assumption⟩,_,rfl⟩
          · exact⟨sj,⟨ys,hLj,c_a⟩,_,rfl⟩
        · exact aZ ⟨sj,⟨ys,hLj,c_a⟩,_,rfl⟩
      · exact aZ ⟨sj,⟨ys,hLj,c_a⟩,_,rfl⟩
    · rintro σ Hj ⟨sj,⟨ys,hLj,hyl⟩,y,rfl⟩;refine Am _ _ (a0 fun zR qt=>?_);have g2j:=sj _ _ g2;have g3j:=g3.same sj;have smj:=sm.trans (Smf.of sj);have pkj:=pk1.same sj;dsimp only;rw[cz,cj];refine⟨_,rfl,s,_,rfl,(frm (v:=.non) smj pkj).1,fo,rfl,⟨_,SqL.of g2j⟩,fun M hM=>?_⟩;refine b6.by (aK (xs:=fl.map fun x=>V.ref x.1)) (fun j σ Hk=>ak Hj Hk∧(∃ ys,Hk M=some (.lst ys)∧ys.length≤j)∧∃ y,σ=[y,some (.str nm)]) ⟨smu hM,⟨[],pG,Nat.le_refl _⟩,_,rfl⟩ (fun j σ Hk _ z=>SqL.of (z.1 _ _ g2j)) ?_ ?_
      · rintro j x σ Hk hxj ⟨sk,⟨zs,hMk,hzl⟩,y,rfl⟩;have hj:j<fl.length:=by have:=(gES.mp hxj).1;rwa [lMp] at this
        rw[gEM] at hxj;obtain⟨fx,hfx,rfl⟩:=oMS.mp hxj;obtain⟨⟨mf,stf,f1,f2,f3,f4,f5,f6⟩,_⟩:=(g3j fx (mGE hfx)).same sk;rw[aL];refine⟨_,rfl,fx.1,_,rfl,stf.get f2,rfl,_,rfl,?_⟩;split
        · refine⟨_,rfl,fx.1,_,rfl,stf.get f4,_,rfl,rfl,_,rfl,?_⟩;split
          · exact⟨_,rfl,_,hMk,mR,aG sk hM,⟨_,pG,by simp;assumption⟩,_,rfl⟩
          · exact⟨sk,⟨zs,hMk,c_a⟩,_,rfl⟩
        · exact aZ ⟨sk,⟨zs,hMk,c_a⟩,_,rfl⟩
      · rintro σ Hk ⟨sk,⟨zs,hMk,hzl⟩,y,rfl⟩;refine qt _ _ ?_;have smk:=smj.trans (Smf.of sk);have pkk:=pkj.same sk;have hLk:=sk _ _ hLj;have fin:∀ (He:Hp) (nm':Str),ak Hk He→t7 {nx:=fun _ H'=>Q .non H',rt:=Q} [some (.ref s),some (.int part),some (.int ((num:Nat):Int)),some (.str hd),some (.str nm'),some (.str so),some (.ref L),some (.ref M),none,none] He:=fun He nm' se=>q7 He k1 hd nm' so _ _ (smk.trans (Smf.of se)) (pkk.same se) kl kh hso;obtain⟨c,hc⟩:∃ c,atI (("abcdefghijklmnop":Str).cps.toList) ((num:Nat):Int)=some c:=by
         have hl:num<(("abcdefghijklmnop":Str).cps.toList).length:=by
          have:(("abcdefghijklmnop":Str).cps.toList).length=16:=by decide +kernel
          exact qO
         exact⟨_,pJ (gEE hl)⟩
        have hul:("u":Str).length+(⟨#[c]⟩:Str).length≤sizeLine:=by
         have h1:("u":Str).length=1:=by decide +kernel
         have h2:(⟨#[c]⟩:Str).length=1:=rfl;lia
        refine⟨_,rfl,ef,fun e0 he=>?_⟩;have k5:=smu (o:=HO.lst []) he;refine⟨L,e0,_,rfl,rfl,SqL.of (k5 _ _ hLk),SqL.of pG,_,rfl,?_⟩;generalize upd Hk e0 (.lst [])=H5 at k5 ⊢;cases hys:(!ys.isEmpty) with
        | true=>exact bx (bx ⟨_,rfl,_,_,c,rfl,rfl,by decide +kernel,hc,_,_,rfl,rfl,hul,fin H5 _ k5⟩)
        | false =>
         refine aZ ⟨_,rfl,rfl,_,rfl,?_⟩;split
         · refine⟨_,rfl,ef,fun e1 he1=>?_⟩;have k6:=smu (o:=HO.lst []) he1;refine⟨M,e1,_,rfl,rfl,SqL.of (k6 _ _ (k5 _ _ hMk)),SqL.of pG,_,rfl,?_⟩;generalize upd H5 e1 (.lst [])=H6 at k6 ⊢;split
           · exact⟨_,rfl,_,_,c,rfl,rfl,by decide +kernel,hc,_,_,rfl,rfl,hul,fin H6 _ (k5.trans k6)⟩
           · exact fin H6 _ (k5.trans k6)
         · exact aZ (fin H5 _ k5)
   refine⟨_,(pE (pN (i:=3) nd rfl (Or.inl rfl) (aq aH (ag (pA pD (pA pD (pA pD (pA pD (pA pD pC)))))) (aa ab (hr.mono (by decide)) rfl (pA (pv 0) (pA pH pC))) (fun _ _=>rfl))) (pE (pN (i:=4) nd rfl (Or.inr rfl) (aq aH (ag (pA pD (pA pD (pA pD (pA pD (pA pD (pA pD pC))))))) (aa ab (hr.mono (by decide)) rfl (pA (pv 0) (pA pH pC))) (fun _ _=>rfl))) (pE (pN (i:=5) nd rfl (Or.inr rfl) pD) (pE (aN (pO aV (pv 3) pD (pP _)) (pI (pN (i:=5) nd rfl (Or.inr rfl) pD)) aE) h4)))),?_⟩;dsimp only[bJ,bN,bM];refine a0 fun Dr Aa=>?_;refine⟨Be,fun L hL=>?_⟩;have k1:=smu (o:=HO.lst [V.str "record",V.str "function",V.str "function",V.str "deep",V.str "open"]) hL;have hL1:(upd H L (.lst [V.str "record",V.str "function",V.str "function",V.str "deep",V.str "open"])) L=some (.lst [V.str "record",V.str "function",V.str "function",V.str "deep",V.str "open"]):=pG;have Ls:=pk.st.ne hL;generalize upd H L (.lst [V.str "record",V.str "function",V.str "function",V.str "deep",V.str "open"])=H1 at k1 hL1 ⊢;have p1:=pk.same k1;refine⟨_,rfl,s,a,n,m,ns,k,5,rfl,p1.st,p1.hn,p1.sc,p1.ne,p1.sq,p1.len,p1.hk,p1.k0,by exact b_k,by decide,fun r2 H2 r20 r21 mo2 st2=>?_⟩;have p2:=p1.next mo2 st2;obtain⟨j2,rfl⟩:=Int.eq_ofNat_of_zero_le r20;obtain⟨hd,hhd,hlay⟩:∃ hd:Str,([V.str "record",V.str "function",V.str "function",V.str "deep",V.str "open"]:List V)[j2]?=some (.str hd)∧(PyData.str hd).canLay0=true:=by
    rcases (show j2=0∨j2=1∨j2=2∨j2=3∨j2=4 by exact AF) with rfl | rfl | rfl | rfl | rfl <;> exact⟨_,rfl,by decide +kernel⟩
   refine⟨L,_,_,.str hd,rfl,rfl,SqL.of (by rw[mo2 L Ls];exact hL1),pJ hhd,?_⟩;refine Aa _ _ (a0 fun Dp A8=>?_);refine⟨DX,fun M hM=>?_⟩;have k3:=smu (o:=HO.lst [V.str "f",V.str "g",V.str "fg",V.str "a",V.str "ab",V.str "gggggggg"]) hM;have hM3:(upd H2 M (.lst [V.str "f",V.str "g",V.str "fg",V.str "a",V.str "ab",V.str "gggggggg"])) M=some (.lst [V.str "f",V.str "g",V.str "fg",V.str "a",V.str "ab",V.str "gggggggg"]):=pG;have Ms:=p2.st.ne hM;generalize upd H2 M (.lst [V.str "f",V.str "g",V.str "fg",V.str "a",V.str "ab",V.str "gggggggg"])=H3 at k3 hM3 ⊢;have p3:=p2.same k3;refine⟨_,rfl,s,a,n,_,ns,k+1,6,rfl,p3.st,p3.hn,p3.sc,p3.ne,p3.sq,p3.len,p3.hk,p3.k0,AM 1,by decide,fun r4 H4 r40 r41 mo4 st4=>?_⟩;have p4:=p3.next mo4 st4;obtain⟨j4,rfl⟩:=Int.eq_ofNat_of_zero_le r40;obtain⟨nm,hnm⟩:∃ nm:Str,([V.str "f",V.str "g",V.str "fg",V.str "a",V.str "ab",V.str "gggggggg"]:List V)[j4]?=some (.str nm):=by
    rcases (show j4=0∨j4=1∨j4=2∨j4=3∨j4=4∨j4=5 by lia) with rfl | rfl | rfl | rfl | rfl | rfl <;> exact⟨_,rfl⟩
   refine⟨M,_,_,.str nm,rfl,rfl,SqL.of (by rw[mo4 M Ms];exact hM3),pJ hnm,?_⟩;refine A8 _ _ (a0 fun Do A7=>?_);rw[bW] at p4;refine A7 _ _ ?_;have sm4:Smf s H H4:=(Smf.of k1).trans ((Smf.mo mo2).trans ((Smf.of k3).trans (Smf.mo mo4)));refine⟨_,rfl,rfl,_,rfl,?_⟩;by_cases hh:hd="record"
   · exact pL (by simp[hh]) (q4 H4 _ hd nm "record" sm4 p4 (by lia) (by lia) ⟨.inl ⟨rfl,hh⟩,hlay⟩)
   · exact pK (by simp[hh]) (q4 H4 _ hd nm "function" sm4 p4 (by lia) (by lia) ⟨.inr ⟨rfl,hh⟩,hlay⟩)
end
def Sm2 (s fo:Addr) (H H':Hp):Prop:=∀ b o,b≠s→b≠fo→H b=some o→H' b=some o
theorem Sm2.smf {s fo:Addr} {H H1 H2:Hp} (x:Sm2 s fo H H1) (y:Smf s H1 H2):Sm2 s fo H H2:=fun b o h1 h2 e=>y b o h1 (x b o h1 h2 e)
theorem Sm2.put {s fo:Addr} {H H1:Hp} {o':HO} (x:Sm2 s fo H H1):Sm2 s fo H (upd H1 fo o'):=fun b o h1 h2 e=>by rw[a9 h2];exact x b o h1 h2 e
structure iL (H0 H:Hp) (np:Nat) (fl:FL):Prop where
  fv:FsV H fl
  new:∀ x∈fl,H0 x.1=none∧H0 x.2.inner=none
  pt:∀ x∈fl,∃ p:Nat,p<np∧x.2.part=((p:Nat):Int)
  inn:∀ x∈fl,x.2.inn.length≤4∧(x.2.sort="record"→0<x.2.inn.length)
  so:∀ x∈fl,x.2.sort="record"∨x.2.sort="function"
  num:∀ i x,fl[i]?=some x→x.2.number=((((fl.take i).filter (bw x.2.sort)).length:Nat):Int)
  few:∀ x∈fl,∃ kvs,H x.1=some (.dK kvs)∧kvs.length≤10
  nd:(fl.map (·.1)).Nodup
  lay:∀ x∈fl,(PyData.str x.2.head).canLay0=true
theorem iL.nil (H0 H:Hp) (np:Nat):iL H0 H np []:=⟨fun x hx=>absurd hx nMN,fun x hx=>absurd hx nMN,fun x hx=>absurd hx nMN,fun x hx=>absurd hx nMN,fun x hx=>absurd hx nMN,fun i x h=>(by simp at h),fun x hx=>absurd hx nMN,List.nodup_nil,fun x hx=>absurd hx nMN⟩
theorem iL.snoc {H0 H H':Hp} {np:Nat} {fl:FL} {f:Addr} {fm:Frm} {p:Nat} (h:iL H0 H np fl) (fs':FsV H' fl) (hn:AU H0 H' f fm ((p:Nat):Int) fl) (hp:p<np) (few':∀ x∈fl,∃ kvs,H' x.1=some (.dK kvs)∧kvs.length≤10) (hf:∀ x∈fl,x.1≠f):iL H0 H' np (fl++[(f,fm)]):=by
 have mem:∀ {P:Addr×Frm→Prop},(∀ x∈fl,P x)→P (f,fm)→∀ x∈fl++[(f,fm)],P x:=fun {P} h1 h2 x hx=>by
  rcases mAp.mp hx with hx | hx
  · exact h1 x hx
  · rw[mSg.mp hx];exact h2
 refine⟨mem fs' hn.fv,mem h.new ⟨hn.new,hn.newI⟩,mem h.pt ⟨p,hp,hn.pt⟩,mem h.inn hn.inn,mem h.so hn.so,fun i x hx=>?_,mem few' hn.few,?_,mem h.lay hn.lay⟩
 rotate_left
 · rw[List.map_append,List.nodup_append];refine⟨h.nd,by simp,fun a ha b hb e=>?_⟩;obtain⟨x,hx,rfl⟩:=List.mem_map.mp ha;rw[mSg.mp hb] at e;exact hf x hx e
 by_cases hi:i<fl.length
 · rw[List.getElem?_append_left hi] at hx;rw[List.take_append_of_le_length (Nat.le_of_lt hi)];exact h.num i x hx
 · have hl:=(gES.mp hx).1;rw[lAp] at hl;have hl':i<fl.length+1:=hl;have:i=fl.length:=by lia
   subst this;rw[List.getElem?_append_right (Nat.le_refl _),Nat.sub_self] at hx;cases hx;rw[List.take_append_of_le_length (Nat.le_refl _),List.take_length];exact hn.num
section
variable {P:Program} {w:World} {K:Fg} {mg:SOV} {base:Heap}
abbrev sHe:Stmt:=top 17
abbrev nHe:List Str:=["_law_state","_law_part","_law_k"]
theorem yo:aB nHe ["_law_state"] (a7 sHe):=fsM
inductive uE (K:Fg) (vs:List V) (H:Hp) (Q:VK):Prop
  | mk (s a fo ro:Addr) (rs:List Addr) (n:Nat) (m:Str→Option V) (ns:List Int) (k:Int) (g0_:vs=[.ref s]) (g1_:Pk K H s n m a ns k) (g2_:(KL K a ns∨∃ b,H a=some b)) (g3_:(KL K a ns∨fo≠a)) (g4_:k<100) (g5_:m "forms"=some (.ref fo)) (g6_:H fo=some (.lst [])) (g7_:m "rows"=some (.ref ro)) (g8_:H ro=some (.lst (rs.map V.ref))) (g9_:fo≠ro) (g10_:rs.length≤3) (g11_:∀ fl k' H',Sm2 s fo H H'→H' fo=some (.lst (fl.map fun x=>V.ref x.1))→iL H H' rs.length fl→fl.length≤9→k≤k'→k'≤k+200→Pk K H' s n (aJ m "k" (.int k')) a ns k'→Q .non H'):uE K vs H Q
def xO (K:Fg):Sp:=fun vs H Q _=>uE K vs H Q
theorem zx (D:Def K mg "_law_heads" sHe) (T:Blt mg) (ab:Fn P w K mg base "_law_pick" 2 ["_law_state","_law_many"] (iD K)) (m8:Fn P w K mg base "_law_form" 5 vJ (xQ K)):Fn P w K mg base "_law_heads" 6 ["_law_state"] (xO K):=by
 refine D.fn yo (fun vs H Q E h=>?_) (fun _ _ _ _ _ _ us hl=>by obtain⟨a,rfl⟩:=eK hl;rfl) (fun f cdv A outer s' H vs Q E hr h=>?_)
 · obtain⟨s,a,fo,ro,rs,n,m,ns,k,rfl,_⟩:=h;rfl
 · obtain⟨s,a,fo,ro,rs,n,m,ns,k,rfl,pk,al,foa,hk,hfo,hF,hro,hR,fr,hrl,q⟩:=h;have nd:=yo.nd;have hu:=bX hr;have hz0:(1000000:Nat)<sizeLine:=by decide
   have hsd:∃ kvs,H s=some (.dK kvs):=by obtain⟨kvs,h1,_⟩:=pk.st;exact⟨kvs,h1⟩
   have nes:∀ {b:Addr} {xs:List V},H b=some (.lst xs)→b≠s:=fun {b xs} h e=>by
    obtain⟨kvs,h1⟩:=hsd;rw[e,h1] at h;cases h
   refine⟨_,(pI (bp PassesOwn.never rfl (bz rfl T.range (pA (bc T.len (pA (pM hu (pv 0) pD (fun _ _=>rfl)) pC)) pC)) (ae (i:=1) nd rfl (Or.inl rfl)) (pI (bp PassesOwn.never rfl (bz rfl T.range (pA (aa ab (hr.mono (by decide)) rfl (pA (pv 0) (pA pH pC))) pC)) (ae (i:=2) nd rfl (Or.inl rfl)) (pI (am (aX (pM hu (pv 0) pD (fun _ _=>rfl)) (pA (aa m8 (hr.mono (by decide)) rfl (pA (pv 0) (pA (pv 1) (pA (bc T.len (pA (pM hu (pv 0) pD (fun _ _=>rfl)) pC)) pC)))) pC)))))))),?_⟩;dsimp only[bJ,bN,bM];refine⟨_,rfl,s,_,rfl,pk.st.get hro,ro,_,rfl,.inl (SqL.of hR),_,rfl,by rw[lMp];exact oq,by rw[lMp];exact tD,?_⟩;rw[lMp,show ((rs.length:Nat):Int).toNat=rs.length from Int.toNat_natCast _];show aw _ _ _ _ _ _;refine aw.byN (b4 (n:=rs.length)) (fun i σ Hi=>Sm2 s fo H Hi∧(∃ fl k',Hi fo=some (.lst (fl.map fun x=>V.ref x.1))∧iL H Hi rs.length fl∧fl.length≤3*i∧k≤k'∧k'≤k+61*((i:Nat):Int)∧Pk K Hi s n (aJ m "k" (.int k')) a ns k')∧∃ x1 x2,σ=[some (.ref s),x1,x2])
    ⟨fun b o _ _ e=>e,⟨[],k,hF,iL.nil _ _ _,Nat.zero_le _,Int.le_refl _,by simp,?_⟩,_,_,rfl⟩ (fun _ _ _ _ _=>trivial) ?_ ?_
   · have e:aJ m "k" (.int k)=m:=by
      funext y
      unfold aJ;by_cases h:y="k"
      · rw[if_pos h,h,pk.hk]
      · rw[if_neg h]
     rw[e];exact pk
   · rintro i x σ Hi BP B_ wx hB_ hx ⟨sm,⟨fl,k1,hfi,hok,hll,c1,c2,pi⟩,x1,x2,rfl⟩;have hic:i<rs.length:=by have:=(gES.mp hx).1;rw[bm] at this;exact this
     obtain rfl:=ei hx;refine⟨_,rfl,s,a,n,_,ns,k1,4,rfl,pi.st,pi.hn,pi.sc,pi.ne,pi.sq,pi.len,pi.hk,pi.k0,by lia,by decide,fun r H2 r0 r1 mo2 st2=>?_⟩;have p2:=pi.next mo2 st2;rw[bW] at p2;obtain⟨c,rfl⟩:=Int.eq_ofNat_of_zero_le r0;refine⟨_,rfl,oq,b_k,?_⟩;rw[show ((c:Nat):Int).toNat=c from Int.toNat_natCast c];have foi:fo≠s:=nes hF;have ali:KL K a ns∨∃ b,Hi a=some b:=by
      rcases al with z | ⟨b,hb⟩
      · exact .inl z
      · by_cases e:a=fo
        · exact .inr ⟨_,by rw[e];exact hfi⟩
        · exact .inr ⟨b,sm _ _ pk.ne e hb⟩
     have sdi:∃ kvs,Hi s=some (.dK kvs):=by obtain⟨kvs,h1,_⟩:=pi.st;exact⟨kvs,h1⟩
     have nei:∀ y∈fl,y.1≠s:=fun y hy e=>by
      obtain⟨kvs,h1⟩:=hsd;have:=(hok.new y hy).1;rw[e,h1] at this;cases this
     have foy:∀ {b:Addr},H b=none→b≠fo:=fun {b} hb e=>by rw[e,hF] at hb;cases hb
     show aw _ _ _ _ _ _;refine aw.byN (b4 (n:=c)) (fun j σ Hj=>Sm2 s fo H Hj∧(∃ fl k',Hj fo=some (.lst (fl.map fun x=>V.ref x.1))∧iL H Hj rs.length fl∧fl.length≤3*i+j∧k≤k'∧k'≤k+61*((i:Nat):Int)+1+20*((j:Nat):Int)∧Pk K Hj s n (aJ m "k" (.int k')) a ns k'∧(KL K a ns∨∃ b,Hj a=some b))∧∃ x2,σ=[some (.ref s),some (.int ((i:Nat):Int)),x2])
      ⟨sm.smf (Smf.mo mo2),⟨fl,k1+1,by rw[mo2 fo foi];exact hfi,⟨hok.fv.smf (Smf.mo mo2) nei sdi,hok.new,hok.pt,hok.inn,hok.so,hok.num,fun y hy=>(hok.few y hy).imp fun kvs z=>⟨(Smf.mo mo2) _ _ (nei y hy) z.1,z.2⟩,hok.nd,hok.lay⟩,c_a,tG,by lia,p2,ali.imp_right fun ⟨b,hb⟩=>⟨b,by rw[mo2 a pi.ne];exact hb⟩⟩,_,rfl⟩ (fun _ _ _ _ _=>trivial) ?_ ?_
     · rintro j x σ Hj N_ B_ hN_ hB_ hx ⟨sm,⟨fl,k2,hfj,hok,hll,c1,c2,pj,alj⟩,x2,rfl⟩;have hjc:j<c:=by have:=(gES.mp hx).1;rw[bm] at this;exact this
       have gj:bR Hj s (.str "forms") (some (.ref fo)):=pj.st.get (by rw[aj _ _ (by decide +kernel)];exact hfo);have nej:∀ y∈fl,y.1≠s:=fun y hy e=>by
        obtain⟨kvs,h1⟩:=hsd;have:=(hok.new y hy).1;rw[e,h1] at this;cases this
       refine⟨_,rfl,s,_,rfl,gj,.inl ⟨rfl,_,SqL.of hfj⟩,_,rfl,_,rfl,_,rfl,s,_,rfl,gj,fo,_,rfl,.inl (SqL.of hfj),?_⟩;refine⟨s,a,fo,n,_,ns,k2,fl,((i:Nat):Int),fl.length,by rw[lMp];rfl,by lia,pj,alj,by lia,by rw[aj _ _ (by decide +kernel)];exact hfo,hfj,hok.fv,by lia,nej,fun f3 fm k3 H3 sm3 new3 e1 e2 p3=>?_⟩;rw[bW] at p3;have hf3:=sm3 _ _ foi hfj;have sdj:∃ kvs,Hj s=some (.dK kvs):=by obtain⟨kvs,h1,_⟩:=pj.st;exact⟨kvs,h1⟩
       have fs3:=hok.fv.smf sm3 nej sdj;have newH:∀ {b:Addr},Hj b=none→H b=none:=fun {b} hb=>by
        cases hq:H b with
        | none=>rfl
        | some o =>
         have bs:b≠s:=fun e=>by obtain⟨kvs,h1⟩:=sdj;rw[e,h1] at hb;cases hb
         have bf:b≠fo:=fun e=>by rw[e,hfj] at hb;cases hb
         rw[sm b o bs bf hq] at hb;cases hb
       have hfn:=newH new3.new;have hin:=newH new3.newI;refine⟨fo,_,_,rfl,rfl,hf3,by rw[lMp];lia,hN_ _ _ ⟨(sm.smf sm3).put,⟨fl++[(f3,fm)],k3,by rw[pG,List.map_append];rfl,?_,by simp;lia,by lia,by lia,p3.put hf3 foa,?_⟩,_,rfl⟩⟩
       · have stay:∀ {g:Addr} {gm:Frm},iz H3 g gm→H gm.inner=none→iz (upd H3 fo (.lst ((fl.map fun x=>V.ref x.1)++[V.ref f3]))) g gm:=fun {g gm} fv hi=>by
          obtain⟨⟨mf,⟨kvs,h1,h2⟩,r⟩,i1⟩:=fv;exact⟨⟨mf,⟨kvs,by rw[a9 fun e=>by rw[e,hf3] at h1;cases h1];exact h1,h2⟩,r⟩,by rw[a9 (foy hi)];exact i1⟩
         refine hok.snoc (fun y hy=>stay (fs3 y hy) (hok.new y hy).2) ⟨stay new3.fv hin,new3.pt,hfn,hin,new3.inn,new3.so,new3.num,?_,new3.lay⟩ hic (fun y hy=>?_) fun y hy e=>?_
         · obtain⟨kvs,h1,h2⟩:=new3.few;exact⟨kvs,by rw[a9 (foy hfn)];exact h1,h2⟩
         · obtain⟨kvs,h1,h2⟩:=hok.few y hy;exact⟨kvs,by rw[a9 (foy (hok.new y hy).1)];exact sm3 _ _ (nej y hy) h1,h2⟩
         · obtain⟨kvs,h1,_⟩:=hok.few y hy;have:=new3.new;rw[← e,h1] at this;cases this
       · rcases alj with z | ⟨b,hb⟩
         · exact .inl z
         · by_cases e:a=fo
           · exact .inr ⟨_,by rw[e];exact pG⟩
           · exact .inr ⟨b,by rw[a9 e];exact sm3 _ _ pk.ne hb⟩
     · rintro σ Hj ⟨sm,⟨fl,k2,hfj,hok,hll,c1,c2,pj,alj⟩,x2,rfl⟩;refine wx _ _ ?_;rw[bm] at hll c2;exact⟨sm,⟨fl,k2,hfj,hok,by lia,c1,by lia,pj⟩,_,_,rfl⟩
   · rintro σ Hi ⟨sm,⟨fl,k1,hfi,hok,hll,c1,c2,pi⟩,x1,x2,rfl⟩;rw[bm] at hll c2;exact q fl k1 Hi sm hfi hok (by lia) c1 (by lia) pi
end
abbrev C0 (A:Adr) (ns:List Int) (fo:Addr) (fl:FL):Ctx:=⟨A,0,ns,fo,fl,0,A.s,0,""⟩
structure SG (P:Program) (w:World) (K:Fg) (H:Hp) (A:Adr) (n:Nat) (ns:List Int) (fo:Addr) (fl:FL) (N:Nat) (skv:NKV):Prop where
  ex:∃ m k B,SI P w K H A n m ns k B skv∧k≤((N:Nat):Int)∧B≤N∧m "forms"=some (.ref fo)
  fe:FE H (C0 A ns fo fl)
def cY (A:Adr) (f:Addr) (H H':Hp):Prop:=∀ b o,b≠f→b≠A.s→b∉A.rs→b≠A.th→b≠A.no→b≠A.sp→b≠A.se→H b=some o→H' b=some o
theorem cY.of {A:Adr} {f:Addr} {H H':Hp} (k:ac A H H'):cY A f H H':=fun b o _ h1 h2 h3 h4 h5 h6 e=>k b o h1 h2 h3 h4 h5 h6 e
theorem cY.trans {A:Adr} {f:Addr} {H H1 H2:Hp} (x:cY A f H H1) (y:cY A f H1 H2):cY A f H H2:=fun b o h0 h1 h2 h3 h4 h5 h6 e=>y b o h0 h1 h2 h3 h4 h5 h6 (x b o h0 h1 h2 h3 h4 h5 h6 e)
theorem cY.mo {A:Adr} {f:Addr} {H H':Hp} (mo:Mo H f H'):cY A f H H':=fun b o h0 _ _ _ _ _ _ e=>by rw[mo b h0];exact e
theorem FE.cast {H:Hp} {C C':Ctx} (f:FE H C) (h1:C.A=C'.A) (h2:C.fo=C'.fo) (h3:C.fl=C'.fl):FE H C':=by
 obtain⟨A,n,ns,fo,fl,p,r,fn,hd⟩:=C;obtain⟨A',n',ns',fo',fl',p',r',fn',hd'⟩:=C';cases h1;cases h2;cases h3;exact⟨f.fv,f.fs,f.le,f.nfo,f.nf,f.inn⟩
section
variable {P:Program} {w:World} {K:Fg} {H H':Hp} {A:Adr} {n:Nat} {m:Str→Option V} {ns:List Int} {k:Int} {B:Nat} {skv:NKV}
theorem SI.wide (x:SI P w K H A n m ns k B skv) {n':Nat} (h:n≤n') (h':n'≤1000):SI P w K H A n' m ns k B skv:={x with pk:=⟨x.pk.st.wide h,h',x.pk.sc,x.pk.ne,x.pk.sq,x.pk.len,x.pk.hk,x.pk.k0⟩}
theorem SI.newk (x:SI P w K H A n m ns k B skv) (hn:n<1000) {y:Str} (v:V) (hy:y≠"script"∧y≠"k"∧y≠"rows"∧y≠"things"∧y≠"nodes"∧y≠"spans"∧y≠"seen"):∃ H',dk H A.s (.str y) v H'∧Mo H A.s H'∧SI P w K H' A (n+1) (aJ m y v) ns k B skv:=by
 obtain⟨H',dp,mo,st⟩:=x.pk.st.new y v x.pk.hn;obtain⟨h1,h2,h3,h4,h5,h6,h7⟩:=hy;have nk:∀ {z:Str},y≠z→aJ m y v z=m z:=fun {z} hz=>aj m _ (Ne.symm hz);have x':=x.wide (n':=n+1) (Nat.le_succ n) hn;exact⟨H',dp,mo,x'.put mo ⟨st,hn,by rw[nk h1];exact x.pk.sc,x.pk.ne,SqL.mo x.pk.sq mo x.pk.ne,x.pk.len,by rw[nk h2];exact x.pk.hk,x.pk.k0⟩ (nk h3) (nk h4) (nk h5) (nk h6) (nk h7)⟩
theorem SI.mof (x:SI P w K H A n m ns k B skv) {f:Addr} {kvs kvs':List (Key×V)} (hf:H f=some (.dK kvs)) (hfs:f≠A.s):SI P w K (upd H f (.dK kvs')) A n m ns k B skv:=by
 have kp:∀ {b:Addr} {o:HO},H b=some o→(∀ kvs,o≠.dK kvs)→(upd H f (.dK kvs')) b=some o:=fun {b o} h hd=>by
  rw[a9 fun e=>by rw[e,hf] at h;exact hd _ (Option.some.inj h).symm];exact h
 have kt:∀ c ys,H c=some (.tup ys)→(upd H f (.dK kvs')) c=some (.tup ys):=fun c ys h=>kp h fun kvs z=>nomatch z;obtain⟨kv,hs,hn,hv⟩:=x.pk.st;have sq':SqL K (upd H f (.dK kvs')) A.a (ns.map V.int):=by
  rcases x.pk.sq with (z | ⟨o,z⟩) | z
  · exact .inl (.inl (kp z fun kvs z=>nomatch z))
  · exact .inl (.inr ⟨o,kp z fun kvs z=>nomatch z⟩)
  · exact .inr z
 exact
 { pk:=⟨⟨kv,by rw[a9 (Ne.symm hfs)];exact hs,hn,hv⟩,x.pk.hn,x.pk.sc,x.pk.ne,sq',x.pk.len,x.pk.hk,x.pk.k0⟩
   al:=x.al.imp_right fun ⟨b,hb⟩=>by
     by_cases e:A.a=f
     · exact⟨_,by rw[e];exact pG⟩
     · exact⟨b,by rw[a9 e];exact hb⟩
   ro:=x.ro
   rv:=kp x.rv fun kvs z=>nomatch z
   rw:=fun r hr=>by obtain⟨ws,h1,h2⟩:=x.rw r hr;exact⟨ws,kp h1 (fun kvs z=>nomatch z),h2⟩
   rne:=x.rne
   ra:=x.ra
   th:=x.th
   tv:=by obtain⟨kv,h1,h2⟩:=x.tv;exact⟨kv,kp h1 (fun kvs z=>nomatch z),h2⟩
   no:=x.no
   nv:=by obtain⟨kv,h1,h2⟩:=x.nv;exact⟨kv,kp h1 (fun kvs z=>nomatch z),h2⟩
   sp:=x.sp
   sv:=kp x.sv fun kvs z=>nomatch z
   sa:=x.sa.keep kt
   sl:=x.sl
   se:=x.se
   ev:=by obtain⟨kv,h1,h2,h3⟩:=x.ev;exact⟨kv,kp h1 (fun kvs z=>nomatch z),h2.keep kt,h3⟩
   ne:=x.ne }
end
theorem xm {H:Hp} {f:Addr} {kvs kvs':List (Key×V)} (h:H f=some (.dK kvs)):Tk H (upd H f (.dK kvs')):=fun b xs z=>by
 have ne:b≠f:=fun e=>by
  rw[e] at z
  rcases z with z | ⟨_,z⟩ <;> rw[h] at z <;> cases z
 rcases z with z | ⟨o',z⟩
 · exact .inl (by rw[a9 ne];exact z)
 · exact .inr ⟨o',by rw[a9 ne];exact z⟩
section
variable {P:Program} {w:World} {K:Fg} {mg:SOV} {base:Heap}
abbrev sFi:Stmt:=top 33
abbrev nFi:List Str:=["_law_state","_law_form_here","_law_first","_law_reply","_law_k","_law_seen_here"]
abbrev vK:List Str:=["_law_state","_law_form_here"]
theorem yu:aB nFi vK (a7 sFi):=fsM
def OkF (c:Int) (d:PyData):Prop:=∃ n:Nat,c=((n:Nat):Int)∧n≤4∧OkE (rgI 0 n) 5 d∧∃ j:Int,CnD 5 c d j∧j≤52
def AR (K:Fg) (H':Hp) (x:Addr×Frm) (fn:Nat) (skv skv':NKV) (v:V):Prop:=x.2.sort="record"∧skv'=skv∨x.2.sort="function"∧∃ d c,TD K H' v (.tuple [.str x.2.head,.int c,d])∧OkF c d∧bv fn [] (AtP d) (skv,0,0) (skv',0,0)
inductive uH (P:Program) (w:World) (K:Fg) (vs:List V) (H:Hp) (Q:VK):Prop
  | mk (A:Adr) (n:Nat) (ns:List Int) (fo:Addr) (fl:FL) (N:Nat) (skv:NKV) (x:Addr×Frm) (p:Nat) (r:Addr) (fn:Nat) (g0_:vs=[.ref A.s,.ref x.1]) (g1_:SG P w K H A n ns fo fl N skv) (g2_:n<900) (g3_:N+65000<900000) (g4_:x∈fl) (g5_:x.2.part=((p:Nat):Int)) (g6_:A.rs[p]?=some r) (g7_:x.2.number=((fn:Nat):Int)) (g8_:(x.2.sort="record"∨x.2.sort="function")) (g9_:(∃ kvs,H x.1=some (.dK kvs)∧kvs.length≤10)) (g10_:∀ v H' skv',cY A x.1 H H'→SG P w K H' A (n+6) ns fo fl (N+65000) skv'→AR K H' x fn skv skv' v→Q v H'):uH P w K vs H Q
def xR (P:Program) (w:World) (K:Fg):Sp:=fun vs H Q _=>uH P w K vs H Q
theorem SX.formD {H:Hp} {C:Ctx} {N:Nat} {skv:SK} (x:SX P w K H C N skv) {y:Addr×Frm} (hy:y∈C.fl):bR H y.1 (.str "part") (some (.int y.2.part))∧bR H y.1 (.str "head") (some (.str y.2.head))∧bR H y.1 (.str "sort") (some (.str y.2.sort)):=by
 obtain⟨⟨m,k',B,si,hk,hB,sm⟩,rr,fe⟩:=x;obtain⟨⟨mf,stf,f1,f2,f3,f4,f5,f6⟩,hi⟩:=fe.fs y hy;exact⟨stf.get f1,stf.get f2,stf.get f3⟩
theorem SX.few {H H':Hp} {C:Ctx} {N:Nat} {skv:SK} (x:SX P w K H C N skv) {y:Addr×Frm} (hy:y∈C.fl) (kp:ac C.A H H') (h:∃ kvs,H y.1=some (.dK kvs)∧kvs.length≤10):∃ kvs,H' y.1=some (.dK kvs)∧kvs.length≤10:=by
 obtain⟨⟨m,k',B,si,hk,hB,sm⟩,rr,fe⟩:=x;obtain⟨kvs,h1,h2⟩:=h;exact⟨kvs,si.kD kp h1 (fe.nf y hy).1,h2⟩
theorem zC (D:Def K mg "_law_fill" sFi) (T:Blt mg) (ab:Fn P w K mg base "_law_pick" 2 ["_law_state","_law_many"] (fI P w K)) (ah:Fn P w K mg base "_law_lay" 1 ["_law_state","_law_words"] (fJ P w K)) (aU:Fn P w K mg base "_law_tell" 1 ["_law_state","_law_at","_law_thing"] (iQ P w K)) (c9:Fn P w K mg base "_law_bind" 2 ["_law_state","_law_name_here","_law_is_var"] (iR P w K)) (c7:Fn P w K mg base "_law_expr" 30 dN (kc P w K 5)):Fn P w K mg base "_law_fill" 31 vK (xR P w K):=by
 refine D.fn yu (fun vs H Q E h=>?_) (fun _ _ _ _ _ _ us hl=>by obtain⟨a,b,rfl⟩:=il hl;rfl) (fun f cdv Ar outer s' H vs Q E hr h=>?_)
 · obtain⟨A,n,ns,fo,fl,N,skv,x,p,r,fn,rfl,_⟩:=h;rfl
 · obtain⟨A,n,ns,fo,fl,N,skv,x,p,r,fn,rfl,sg,hn,hN,hx,hp,hr',hnum,hso,hfew,q⟩:=h;have nd:=yu.nd;have hu:=bX hr;have hz0:(1000000:Nat)<sizeLine:=by decide
   let C:Ctx:=⟨A,n+6,ns,fo,fl,p,r,fn,x.2.head⟩
   have hxC:x∈C.fl:=hx;obtain⟨t11,h11,q11⟩:∃ t,PSs (cJ CX0 P w K mg base nFi "_law_fill" (a7 sFi) f cdv Ar outer s' H E).nox ((aW sFi).drop 11) t ∧
    ∀ (H1:Hp) (N1:Nat) (skv1:SK) (v:V) (i:Int) (x4 x5:Option V),ac A H H1→SX P w K H1 C N1 skv1→N1+2≤N+65000→(∃ kvs,H1 x.1=some (.dK kvs)∧kvs.length≤10)→AR K H1 x fn skv skv1.1 v →
     t {nx:=fun _ H'=>Q .non H',rt:=Q} [some (.ref A.s),some (.ref x.1),some (.int i),some v,x4,x5] H1:=by
    refine⟨_,(pE (am (aa ah (hr.mono (by decide)) rfl (pA (pv 0) (pA (ag (pA pD pC)) pC)))) (pE (bg hu (pv 1) pD (au (pA (pM hu (pv 1) pD (fun _ _=>rfl)) (pA (pv 2) (pA (aC ck (bc T.len (pA (aq aH (pM hu (pv 0) pD (fun _ _=>rfl)) (pM hu (pv 1) pD (fun _ _=>rfl)) (fun _ _=>rfl)) pC)) (pv 2)) pC)))) rfl) (pI (az (pv 3))))),fun H1 N1 skv1 v i x4 x5 kp1 x1 hN1 hfew1 told=>?_⟩;dsimp only[bJ,bN,bM];refine a0 fun qi ir=>?_;refine⟨_,rfl,eW,fun M hM=>?_⟩;have k2:=smu (o:=HO.lst [V.str ")"]) hM;refine⟨C,_,skv1,M,[")"],1,rfl,rfl,x1.same k2,pG,x1.new hM,by lia,fun i3 H3 kp3 x3=>?_⟩;refine ir _ _ (a0 fun DR Aw=>?_);have kp3':=(ac.of k2).trans kp3;obtain⟨rp,rf,rr,rn,re,rs,rv,rat,ws',hws'⟩:=x3.rd;obtain⟨fp,fh,fs⟩:=x3.formD hxC;rw[hp] at fp;refine⟨_,rfl,x.1,_,rfl,fp,_,rfl,_,rfl,A.s,_,rfl,rr,_,rfl,x.1,_,rfl,fp,A.ro,_,_,.ref r,rfl,rfl,SqL.of rv,rat,r,_,rfl,.inl (SqL.of hws'),_,rfl,_,_,rfl,rfl,ee,fun u hu'=>?_⟩;have k4:=smu (o:=HO.tup [V.int ((p:Nat):Int),V.int i,V.int (((ws'.map V.str).length:Nat)-i)]) hu';generalize upd H3 u (.tup [V.int ((p:Nat):Int),V.int i,V.int (((ws'.map V.str).length:Nat)-i)])=H4 at k4 ⊢;have x4:=x3.same k4;have kp4:=kp3'.trans (ac.of k4);obtain⟨kvs,hkv,hkl⟩:=x1.few hxC kp4 hfew1;have tk4:=x1.tk kp4;refine⟨_,rfl,x.1,_,rfl,dk.k (k:=.inr "span") hkv (oz),?_⟩;refine Aw _ _ ?_;refine⟨_,rfl,q v _ skv1.1 ((cY.of (kp1.trans kp4)).trans (cY.mo fun b hb=>a9 hb)) ?_ ?_⟩
    · obtain⟨⟨m,k',B,si,hk,hB,sm⟩,_,fe⟩:=x4;have hxs:=(fe.nf x hx).1;refine⟨⟨m,k',B,si.mof hkv hxs,by lia,by lia,sm.fo⟩,⟨?_,fun y hy=>?_,fe.le,fe.nfo,fe.nf,fe.inn⟩⟩
      · rw[a9 fun e=>by have:=fe.fv;rw[show C.fo=x.1 from e,hkv] at this;cases this];exact fe.fv
      · obtain⟨⟨mf,⟨kv,h1,h2,h3⟩,g1,g2,g3,g4,g5,g6⟩,i1⟩:=fe.fs y hy;have i1':(upd H4 x.1 (.dK (bS kvs (.inr "span") (.ref u)))) y.2.inner=some (.lst (y.2.inn.map V.str)):=by
         rw[a9 fun e=>by rw[e,hkv] at i1;cases i1];exact i1
        by_cases e:y.1=x.1
        · rw[e] at h1;rw[hkv] at h1;cases h1;have hsp:∀ z:Str,z≠"span"→bP (bS kvs (.inr "span") (.ref u)) (.inr z)=mf z:=fun z hz=>by
           rw[dl,if_neg (by simpa using hz)];exact h3 z
          refine⟨⟨fun z=>bP (bS kvs (.inr "span") (.ref u)) (.inr z),⟨_,by rw[e];exact pG,?_,fun z=>rfl⟩,?_,?_,?_,?_,?_,?_⟩,i1'⟩
          · have:=bq kvs (.inr "span") (.ref u);lia
          · exact (hsp "part" (by decide +kernel)).trans g1
          · exact (hsp "head" (by decide +kernel)).trans g2
          · exact (hsp "sort" (by decide +kernel)).trans g3
          · exact (hsp "name" (by decide +kernel)).trans g4
          · exact (hsp "inner" (by decide +kernel)).trans g5
          · exact (hsp "number" (by decide +kernel)).trans g6
        · exact⟨⟨mf,⟨kv,by rw[a9 e];exact h1,h2,h3⟩,g1,g2,g3,g4,g5,g6⟩,i1'⟩
    · rcases told with ⟨e1,e2⟩ | ⟨e1,d,c,td,ok,gr⟩
      · exact .inl ⟨e1,e2⟩
      · exact .inr ⟨e1,d,c,(td.tk tk4).tk (xm hkv),ok,gr⟩
   refine⟨_,(pE (bg hu (pv 0) pD (pM hu (pv 1) pD (fun _ _=>rfl)) rfl) (pE (bg hu (pv 0) pD (pM hu (pv 1) pD (fun _ _=>rfl)) rfl) (pE (bg hu (pv 0) pD (pM hu (pv 1) pD (fun _ _=>rfl)) rfl) (pE (bg hu (pv 0) pD pH rfl) (pE (bg hu (pv 0) pD pH rfl) (pE (bg hu (pv 0) pD pH rfl) (pE (pN (i:=2) nd rfl (Or.inl rfl) (aa ah (hr.mono (by decide)) rfl (pA (pv 0) (pA (ag (pA pD pC)) pC)))) (pE (am (aa ah (hr.mono (by decide)) rfl (pA (pv 0) (pA (ag (pA (pM hu (pv 1) pD (fun _ _=>rfl)) pC)) pC)))) (pE (am (aa aU (hr.mono (by decide)) rfl (pA (pv 0) (pA (aa ah (hr.mono (by decide)) rfl (pA (pv 0) (pA (ag (pA (pM hu (pv 1) pD (fun _ _=>rfl)) pC)) pC))) (pA (au (pA (pM hu (pv 1) pD (fun _ _=>rfl)) (pA (pM hu (pv 1) pD (fun _ _=>rfl)) pC))) pC))))) (pE (pN (i:=3) nd rfl (Or.inl rfl) (bc T.len (pA (pM hu (pv 1) pD (fun _ _=>rfl)) pC))) (pE (aN (pO aV (pM hu (pv 1) pD (fun _ _=>rfl)) pD (pP _)) (pI (bp PassesOwn.never rfl (bz rfl T.range (pA (pv 3) pC)) (ae (i:=4) nd rfl (Or.inl rfl)) (pI (am (aa aU (hr.mono (by decide)) rfl (pA (pv 0) (pA (aa ah (hr.mono (by decide)) rfl (pA (pv 0) (pA (ag (pA (aq aH (pM hu (pv 1) pD (fun _ _=>rfl)) (pv 4) (fun _ _=>rfl)) pC)) pC))) (pA (au (pA pD (pA (pM hu (pv 1) pD (fun _ _=>rfl)) (pA (pv 4) pC)))) pC)))))))) (pE (am (aa ah (hr.mono (by decide)) rfl (pA (pv 0) (pA (ag (pA pD pC)) pC)))) (pE (eR (i0:=5) (own:=["_law_name_here"]) (outs:=[ (0,"_law_state") ]) rfl (aI.of (a7 sFi) nFi) (bu (pM hu (pv 1) pD (fun _ _=>rfl))) (fun _ _ _ _=>⟨(ae (i:=0) zP rfl (Or.inl rfl)),bL,(aa c9 (hr.mono (by decide)) rfl (pA (pv 1) (pA (pv 0) (pA dW pC))))⟩) nd rfl rfl) (pE (am (aa ah (hr.mono (by decide)) rfl (pA (pv 0) (pA (ag (pA pD pC)) pC)))) (pI (pN (i:=3) nd rfl (Or.inl rfl) (au (pA (pM hu (pv 1) pD (fun _ _=>rfl)) (pA (pv 3) (pA (aa c7 (hr.mono (by decide)) rfl (pA (pv 0) (pA (au pC) (pA (pv 5) (pA (aC bI pH (aa ab (hr.mono (by decide)) rfl (pA (pv 0) (pA pH pC)))) pC))))) pC)))))))))) h11))))))))))),?_⟩;dsimp only[bJ,bN,bM];refine a0 fun zS qu=>?_;obtain⟨⟨m,k,B,si,hk,hB,hfo⟩,fe⟩:=sg;have gets:∀ {H1:Hp},Mo H A.s H1→bR H1 x.1 (.str "part") (some (.int x.2.part))∧bR H1 x.1 (.str "head") (some (.str x.2.head))∧bR H1 x.1 (.str "number") (some (.int x.2.number)):=fun {H1} mo=>by
    obtain⟨⟨mf,⟨kv,h1,h2,h3⟩,g1,g2,g3,g4,g5,g6⟩,i1⟩:=fe.fs x hx;have st:StV H1 x.1 20 mf:=⟨kv,by rw[mo _ (fe.nf x hx).1];exact h1,h2,h3⟩;exact⟨st.get g1,st.get g2,st.get g6⟩
   have mot:∀ {H1 H2:Hp},Mo H A.s H1→Mo H1 A.s H2→Mo H A.s H2:=fun {H1 H2} a b c hc=>(b c hc).trans (a c hc);obtain⟨H1,dp1,mo1,si1⟩:=si.newk (qO) (y:="part") (.int ((p:Nat):Int)) (by decide +kernel);refine⟨_,rfl,x.1,_,rfl,(gets fun _ _=>rfl).1,_,rfl,A.s,H1,rfl,by rw[hp];exact dp1,?_⟩;refine qu _ _ (a0 fun DC Ak=>?_);obtain⟨H2,dp2,mo2,si2⟩:=si1.newk (b_u 1) (y:="head") (.str x.2.head) (by decide +kernel);refine⟨_,rfl,x.1,_,rfl,(gets mo1).2.1,_,rfl,A.s,H2,rfl,dp2,?_⟩;refine Ak _ _ (a0 fun DB Aj=>?_);have mo2:=mot mo1 mo2;obtain⟨H3,dp3,mo3,si3⟩:=si2.newk (b_u 2) (y:="function") (.int ((fn:Nat):Int)) (by decide +kernel);refine⟨_,rfl,x.1,_,rfl,(gets mo2).2.2,_,rfl,A.s,H3,rfl,by rw[hnum];exact dp3,?_⟩;refine Aj _ _ (a0 fun DA Ai=>?_);have mo3:=mot mo2 mo3;obtain⟨H4,dp4,mo4,si4⟩:=si3.newk (b_u 3) (y:="next") (.int 0) (by decide +kernel);refine⟨_,rfl,A.s,H4,rfl,dp4,?_⟩;refine Ai _ _ (a0 fun Dz Ah=>?_);have mo4:=mot mo3 mo4;obtain⟨H5,dp5,mo5,si5⟩:=si4.newk (b_u 4) (y:="funs") (.int 0) (by decide +kernel);refine⟨_,rfl,A.s,H5,rfl,dp5,?_⟩;refine Ah _ _ (a0 fun zR qt=>?_);have mo5:=mot mo4 mo5;obtain⟨H6,dp6,mo6,si6⟩:=si5.newk (b_u 5) (y:="left") (.int 16) (by decide +kernel);refine⟨_,rfl,A.s,H6,rfl,dp6,?_⟩;refine qt _ _ (a0 fun Dy Ag=>?_);have mo6:=mot mo5 mo6;have x6:SX P w K H6 C N (skv,0,16):=by
    refine⟨⟨_,k,B,si6,hk,hB,⟨?_,?_,?_,?_,⟨0,?_⟩,be _ _ _,?_⟩⟩,hr',(fe.cast rfl rfl rfl:FE H C).keep (C:=C) (B:=B) (si.wide (n':=n+6) (by lia) (b_v 6)) (ac.mo mo6)⟩
    · rw[aj _ _ (by decide +kernel),aj _ _ (by decide +kernel),aj _ _ (by decide +kernel),aj _ _ (by decide +kernel),aj _ _ (by decide +kernel),be]
    · rw[aj _ _ (by decide +kernel),aj _ _ (by decide +kernel),aj _ _ (by decide +kernel),be]
    · rw[aj _ _ (by decide +kernel),aj _ _ (by decide +kernel),aj _ _ (by decide +kernel),aj _ _ (by decide +kernel),be]
    · rw[aj _ _ (by decide +kernel),aj _ _ (by decide +kernel),be]
    · rw[aj _ _ (by decide +kernel),be]
    · rw[aj _ _ (by decide +kernel),aj _ _ (by decide +kernel),aj _ _ (by decide +kernel),aj _ _ (by decide +kernel),aj _ _ (by decide +kernel),aj _ _ (by decide +kernel)];exact hfo
   have kp6:ac A H H6:=ac.mo mo6;have few6:∃ kvs,H6 x.1=some (.dK kvs)∧kvs.length≤10:=by
    obtain⟨kvs,h1,h2⟩:=hfew;exact⟨kvs,by rw[mo6 _ (fe.nf x hx).1];exact h1,h2⟩
   refine⟨_,rfl,eW,fun M hM=>?_⟩;have k7:=smu (o:=HO.lst [V.str "("]) hM;refine⟨C,_,_,M,["("],1,rfl,rfl,x6.same k7,pG,x6.new hM,qN 1,fun i7 H7 kp7 x7=>?_⟩;refine Ag _ _ (a0 fun Dw Ae=>?_);have kp7':=(ac.of k7).trans kp7;refine⟨_,rfl,_,rfl,x.1,_,rfl,(x7.formD hxC).2.1,eW,fun M8 hM8=>?_⟩;have k8:=smu (o:=HO.lst [V.str x.2.head]) hM8;refine⟨C,_,_,M8,[x.2.head],1,rfl,rfl,x7.same k8,pG,x7.new hM8,qN 2,fun i8 H8 kp8 x8=>?_⟩;refine Ae _ _ (a0 fun Dv Ad=>?_);have kp8':=(ac.of k8).trans kp8;refine⟨_,rfl,_,rfl,_,rfl,x.1,_,rfl,(x8.form hxC).1,eW,fun M9 hM9=>?_⟩;have k9:=smu (o:=HO.lst [V.str x.2.name]) hM9;refine⟨C,_,_,M9,[x.2.name],1,rfl,rfl,x8.same k9,pG,x8.new hM9,qN 3,fun i9 H9 kp9 x9=>?_⟩;have kp9':=(ac.of k9).trans kp9;refine⟨_,rfl,x.1,_,rfl,(x9.formD hxC).2.2,_,rfl,x.1,_,rfl,(x9.form hxC).2.1,gu,fun t10 ht10=>?_⟩;have k10:=smu (o:=HO.tup [V.str x.2.sort,V.int x.2.number]) ht10;refine⟨C,_,_,_,_,rfl,x9.same k10,qN 3,fun H10 kp10 x10=>?_⟩;refine Ad _ _ (a0 fun Du Ac=>?_);have kp10':=(ac.of k10).trans kp10;have oH:=kp7'.trans (kp8'.trans (kp9'.trans kp10'));have AY:ac A H H10:=kp6.trans oH;have few10:=x6.few hxC oH few6;obtain⟨fn10,fm10,fi10,hi10,hi4,hi0⟩:=x10.form hxC;have hIr:x.2.inner∉A.rs:=(fe.nf x hx).2;refine⟨_,rfl,x.1,_,rfl,fi10,x.2.inner,_,rfl,.inl (SqL.of hi10),?_⟩;refine Ac _ _ (a0 fun Dt ua=>?_);refine⟨_,rfl,x.1,_,rfl,(x10.formD hxC).2.2,rfl,_,rfl,?_⟩;by_cases hrec:x.2.sort="record"
   · refine pL (by simp[hrec]) ?_;refine⟨_,rfl,_,rfl,by rw[lMp];exact oq,by rw[lMp];exact tD,?_⟩;rw[lMp,show ((x.2.inn.length:Nat):Int).toNat=x.2.inn.length from Int.toNat_natCast _];show aw _ _ _ _ _ _;refine aw.byN (b4 (n:=x.2.inn.length)) (fun i σ Hi=>ac A H10 Hi∧SX P w K Hi C (N+4+2*i) (skv,0,16)∧∃ x4,σ=[some (.ref A.s),some (.ref x.1),some (.int i7),some (.int ((x.2.inn.length:Nat):Int)),x4,none])
      ⟨ac.of (ak.refl _),x10,_,rfl⟩ (fun _ _ _ _ _=>trivial) ?_ ?_
     · rintro i v σ Hi Ds B_ Ab hB_ hv ⟨kpi,xi,x4,rfl⟩;have hic:i<x.2.inn.length:=by have:=(gES.mp hv).1;rw[bm] at this;exact this
       obtain rfl:=ei hv;obtain⟨_,_,fii,hii,_,_⟩:=xi.form hxC;refine⟨_,rfl,_,rfl,_,rfl,x.1,_,rfl,fii,_,rfl,x.2.inner,_,_,.str x.2.inn[i],rfl,rfl,SqL.of hii,pJ (by rw[gEM,gEE hic];rfl),eW,fun Mi hMi=>?_⟩;have ki:=smu (o:=HO.lst [V.str x.2.inn[i]]) hMi;refine⟨C,_,_,Mi,[x.2.inn[i]],1,rfl,rfl,xi.same ki,pG,xi.new hMi,by lia,fun i12 H12 kp12 x12=>?_⟩;refine⟨_,rfl,x.1,_,rfl,(x12.form hxC).2.1,_,rfl,ee,fun ti hti=>?_⟩;have kt:=smu (o:=HO.tup [V.str "field",V.int x.2.number,V.int ((i:Nat):Int)]) hti;refine⟨C,_,_,_,_,rfl,x12.same kt,by lia,fun H13 kp13 x13=>?_⟩;refine Ab _ _ ?_;exact⟨kpi.trans ((ac.of ki).trans (kp12.trans ((ac.of kt).trans kp13))),by rw[show N+4+2*(i+1)=N+4+2*i+1+1 by lia];exact x13,_,rfl⟩
     · rintro σ Hi ⟨kpi,xi,x4,rfl⟩;refine ua _ _ ?_;rw[bm] at xi;exact q11 Hi _ _ _ i7 _ _ (AY.trans kpi) xi (by lia) (x10.few hxC kpi few10) (.inl ⟨hrec,rfl⟩)
   · have hfun:x.2.sort="function":=hso.elim (fun z=>absurd z hrec) id;refine pK (by simp[hrec]) ?_;refine a0 fun Dq A9=>?_;refine⟨_,rfl,eW,fun M11 hM11=>?_⟩;have k11:=smu (o:=HO.lst [V.str "("]) hM11;refine⟨C,_,_,M11,["("],1,rfl,rfl,x10.same k11,pG,x10.new hM11,qN 5,fun i11 H11 kp11 x11=>?_⟩;refine A9 _ _ ?_;have kp11':=(ac.of k11).trans kp11;obtain⟨_,_,fi11,hi11,_,_⟩:=x11.form hxC;rw[fZ,cz,cj];refine⟨_,rfl,x.1,_,rfl,fi11,x.2.inner,rfl,⟨_,SqL.of hi11⟩,fun L hL=>?_⟩;refine kX x11 hi11 hIr hL (by lia) (ix) fun H12 ys ts kp12 x12 hL12 hts htl hrg=>?_;have frL:=(x11.fr hL).rs;rw[aL];refine⟨_,rfl,eW,fun M13 hM13=>?_⟩;have k13:=smu (o:=HO.lst [V.str ")"]) hM13;refine⟨C,_,_,M13,[")"],1,rfl,rfl,x12.same k13,pG,x12.new hM13,by lia,fun i13 H13 kp13 x13=>?_⟩;have kp13':=(ac.of k13).trans kp13;have hL13:=x12.kL kp13' hL12 frL;have hts13:=hts.tk (x12.tk kp13');have jO:=kp11'.trans (kp12.trans kp13');refine⟨_,rfl,x.1,_,rfl,(x13.formD hxC).2.1,_,rfl,_,rfl,ef,fun e he=>?_⟩;have k14:=smu (o:=HO.tup []) he;have he14:fV (upd H13 e (.tup [])) e []:=pG;generalize upd H13 e (.tup [])=H14 at k14 he14 ⊢;have x14:=x13.same k14;refine⟨_,rfl,_,rfl,C,_,_,4,rfl,x14,by lia,by decide,fun r15 H15 r150 r151 kp15 x15=>?_⟩;obtain⟨j,rfl⟩:=Int.eq_ofNat_of_zero_le r150;have hcst:cst (1+j)≤64360:=by
      rcases (show j=0∨j=1∨j=2∨j=3 by exact CH) with rfl | rfl | rfl | rfl <;> decide
     have kp15':=(ac.of k14).trans kp15;have se15:SeV K H15 C L (ts.map fun t=>t.2.1):=⟨ys,ts,x13.kL kp15' hL13 frL,hts13.tk (x13.tk kp15'),rfl,frL⟩;refine⟨_,_,rfl,rfl,C,_,_,e,[],L,(ts.map fun t=>t.2.1),1+j,_,rfl,by lia,⟨x15,x14.kT kp15 he14,by show 0+(1+j)≤1000;lia,se15,by rw[lMp];lia⟩,⟨by show (0:Int)≤0+_;lia,by show (0:Int)+_+3*max 16 0≤52;lia⟩,CZ 1,by lia,fun v d H16 skv16 kp16 x16 td ok gr cn fw=>?_⟩;refine⟨ee,fun u hu'=>?_⟩;refine ua _ _ ?_;have k17:=smu (o:=HO.tup [V.str x.2.head,V.int (((x.2.inn.map V.str).length:Nat):Int),v]) hu';have AX:=jO.trans (kp15'.trans (kp16.trans (ac.of k17)));exact q11 _ _ skv16 _ i7 _ _ (AY.trans AX) (x16.same k17) (by lia) (x10.few hxC AX few10) (.inr ⟨hfun,d,_,.tup (SqT.of pG) (.cons (.str _) (.cons (.int _) (.cons (td.same k17) .nil))),⟨_,rfl,by rw[lMp];exact hi4,by rw[hrg,htl] at ok;rw[lMp];exact ok.more (by lia),_,by rw[Int.zero_add] at cn;rw[lMp];exact cn.more (by lia),by have:=fw.2;lia⟩,fun y hy=>gr y hy⟩)
end
end K12
namespace L2
open PySem PySem.Spec PyProof.Rows PySem.W
def cZ {α:Type} (P:Nat→Nat→Prop) (R:α→Prop):KasT α→Prop
  | .ret a=>R a
  | .ask i j k=>P i j∧∀ b,cZ P R (k b)
theorem cZ.bind {α β:Type} {P:Nat→Nat→Prop} {R:α→Prop} {R':β→Prop} {f:α→KasT β} (hf:∀ a,R a→cZ P R' (f a)):∀ (t:KasT α),cZ P R t→cZ P R' (t.bind f):=by
 intro t
 induction t with
 | ret a=>exact fun h=>hf a h
 | ask i j k ih=>exact fun h=>⟨h.1,fun b=>ih b (h.2 b)⟩
theorem cZ.wp {α:Type} {P:Nat→Nat→Prop} {R:α→Prop} {Q:α→Shared→Prop} {s:Shared} {cmp:Nat→Nat→(Bool→Shared→Prop)→Shared→Prop} (hc:∀ i j C,P i j→(∀ b,C b s)→cmp i j C s) (hq:∀ a,R a→Q a s):∀ (t:KasT α),cZ P R t→t.kasWp cmp Q s:=by
 intro t
 induction t with
 | ret a=>exact fun h=>hq a h
 | ask i j k ih=>exact fun h=>hc i j _ h.1 fun b=>ih b (h.2 b)
def bO (n:Nat) (p:Array Nat):Prop:=0<n∧∀ x∈p,x<n
theorem bO.get {n:Nat} {p:Array Nat} (h:bO n p) (i:Nat):p.getD i 0<n:=by
 by_cases hi:i<p.size
 · have:p.getD i 0=p[i]:=by simp[Array.getD,hi]
   rw[this];exact h.2 _ (Array.getElem_mem hi)
 · have:p.getD i 0=0:=by simp[Array.getD,hi]
   rw[this];exact h.1
theorem bO.perm {n:Nat} {p q:Array Nat} (h:bO n p) (e:q.Perm p):bO n q:=⟨h.1,fun x hx=>h.2 x (e.mem_iff.mp hx)⟩
theorem bO.rev {n:Nat} {p:Array Nat} (h:bO n p) (i j:Nat):bO n (kas_rev p i j):=h.perm (mirror_perm _ _ _ _)
abbrev PB (n:Nat):Nat→Nat→Prop:=fun i j=>i<n∧j<n
theorem mU {n:Nat} {p:Array Nat} (h:bO n p):∀ (f m:Nat),cZ (PB n) (fun _=>True) (kas_asc p f m):=by
 intro f
 induction f with
 | zero=>exact fun m=>trivial
 | succ f ih =>
  intro m;refine⟨⟨h.get _,h.get _⟩,fun b=>?_⟩;cases b with
  | true=>exact trivial
  | false=>exact ih _
theorem qR {n:Nat}:∀ (f:Nat) (p:Array Nat) (m q:Nat),bO n p→cZ (PB n) (fun r=>bO n r.1) (kas_desc f p m q):=by
 intro f
 induction f with
 | zero=>exact fun p m q h=>h
 | succ f ih =>
  intro p m q h;refine⟨⟨h.get _,h.get _⟩,fun b=>?_⟩;cases b with
  | true =>
   show cZ _ _ (if q>0 then kas_desc f (kas_rev p (m-(q+1)) m) (m+1) 0 else kas_desc f p (m+1) 0);split
   · exact ih _ _ _ (h.rev _ _)
   · exact ih _ _ _ h
  | false =>
   refine⟨⟨h.get _,h.get _⟩,fun d=>?_⟩;cases d with
   | true=>exact h
   | false=>exact ih _ _ _ h
theorem jd {n:Nat} (m nrem:Nat) {p:Array Nat} (h:bO n p):cZ (PB n) (fun r=>bO n r.2) (kas_tail3 m nrem p):=by
 refine cZ.bind (R:=fun _=>True) (fun a _=>?_) _ (mU (h.rev 0 m) (nrem-m) m);exact h.rev 0 m
theorem fU {n:Nat} (m nrem:Nat) {p:Array Nat} (h:bO n p):cZ (PB n) (fun r=>bO n r.2) (kas_descPart m nrem p):=by
 refine cZ.bind (fun r hr=>?_) _ (qR _ _ _ _ h);split
 · exact jd _ _ (hr.rev _ _)
 · exact jd _ _ hr
theorem oB {n:Nat} (nrem:Nat) {p:Array Nat} (h:bO n p):cZ (PB n) (fun r=>bO n r.2) (kas_count nrem p):=by
 refine cZ.bind (fun m _=>?_) _ (mU h _ _);split
 · exact h
 · split
   · refine⟨⟨h.get _,h.get _⟩,fun b=>?_⟩;cases b with
     | true=>exact h
     | false=>exact fU _ _ (h.rev _ _)
   · exact fU _ _ h
theorem oA {n:Nat} {p:Array Nat} (h:bO n p) (k:Nat):∀ (f l r:Nat),cZ (PB n) (fun _=>True) (kas_place p k f l r):=by
 intro f
 induction f with
 | zero=>exact fun l r=>trivial
 | succ f ih =>
  intro l r;show cZ _ _ (if l≥r then .ret l else .ask (p.getD k 0) (p.getD ((l+r) / 2) 0) fun c=>if c=true then kas_place p k f l ((l+r) / 2) else kas_place p k f ((l+r) / 2+1) r);split
  · exact trivial
  · refine⟨⟨h.get _,h.get _⟩,fun b=>?_⟩;cases b with
    | true=>exact ih _ _
    | false=>exact ih _ _
theorem tI {n:Nat}:∀ (f:Nat) (p:Array Nat) (k:Nat),bO n p→cZ (PB n) (bO n) (kas_bin f p k):=by
 intro f
 induction f with
 | zero=>exact fun p k h=>h
 | succ f ih=>exact fun p k h=>cZ.bind (fun l _=>ih _ _ (h.perm (bubble_perm _ _ _))) _ (oA h _ _ _ _)
theorem qQ {n:Nat} (h0:0<n):cZ (PB n) (bO n) (kas_sort n):=by
 have h:bO n (List.toArray (List.range n)):=⟨h0,fun x hx=>by simpa using hx⟩;refine cZ.bind (fun r hr=>?_) _ (oB _ h);split
 · exact tI _ _ _ hr
 · exact hr
def fC (h:Heap) (v:Value):Prop:=∃ a o x t i u n,v=.ref a∧h.get? a=some o∧o.cls=.type "tuple"∧o.data=.seq #[.str x t,.int i u] n
section
variable {prog:Program} {w:World} {A:Around} {E:VSP} {s:Shared}
theorem sC {v1 v2:Value} (h1:fC s.heap v1) (h2:fC s.heap v2) {C:Bool→Shared→Prop} (hC:∀ b,C b s):wpAny (model prog w) A (keyLt' (tuples' true) v1 v2) C E s:=by
 obtain⟨a1,o1,x1,t1,i1,u1,n1,rfl,g1,c1,d1⟩:=h1;obtain⟨a2,o2,x2,t2,i2,u2,n2,rfl,g2,c2,d2⟩:=h2;refine kat_lt g1 d1 g2 d2 ?_;refine kat_cons (eqBool_str ?_);refine kat_go (fun _=>kat_yes ?_) (fun _=>kat_no (oneLt_str (hC _)));refine kat_cons (wpAny_eqBool_int ?_);exact kat_go (fun _=>kat_yes (kat_nil (hC _))) (fun _=>kat_no (kat_one _ _ (PyProof.Rows.lt_int (hC _))))
theorem gx {a:Addr} {vs:List Value} {n:Nat} {P:PySem.Fin→Shared→Prop} (ho:s.heap.get? a=some (seqObj "list" vs.toArray n)) (ht:∀ v∈vs,fC s.heap v) (h64:vs.length<64)
 (h:∀ out:Array Value,(∀ v∈out.toList,v∈vs)→out.size=vs.length→P (.done (.ret .none)) {s with heap:=sortedHeap s.heap a vs out}) :
 wpAny (model prog w) A (Builtin.«list.sort» ⟨[.ref a],[]⟩) P E s:=by
 rw[list_sort_plain];have ha:a<s.heap.objs.size:=Heap.lt_size ho;refine wB (listItems_at ho rfl ?_);refine wB (listUpdate_at ho rfl ?_);obtain⟨e1,ho1⟩:∃ e1,(s.heap.update a (Obj.mapSeq fun _=>#[])).get? a=some (seqObj "list" #[] e1):=⟨_,get?_update_seq ho (fun _=>#[])⟩;refine wB (seqEpoch_at ho1 rfl ?_);refine wB (wpAny_newTuple ?_);refine wB (wpAny_newList ?_);refine wpAny_holding ?_;have ho6:(((s.heap.update a (Obj.mapSeq fun _=>#[])).push (seqObj "tuple" vs.toArray 0)).push (seqObj "list" #[] 0)).get? a=some (seqObj "list" #[] e1):=by
  rw[Heap.get?_push_ne _ _ _ (by rw[size_push',Heap.size_update];exact Nat.ne_of_lt (Nat.lt_succ_of_lt ha)),Heap.get?_push_ne _ _ _ (by rw[Heap.size_update];exact Nat.ne_of_lt ha)];exact ho1
 have ht6:∀ v∈vs,fC (((s.heap.update a (Obj.mapSeq fun _=>#[])).push (seqObj "tuple" vs.toArray 0)).push (seqObj "list" #[] 0)) v:=fun v hv=>by
  obtain⟨b,o,x,t,i,u,k,rfl,g,c,d⟩:=ht v hv;have ne:b≠a:=fun e=>by
   rw[e,ho] at g;cases g;exact absurd (show Value.type "list"=Value.type "tuple" from c) (by decide)
  exact⟨b,o,x,t,i,u,k,rfl,hpS _ (hpS _ (by rw[Heap.get?_update_ne _ _ _ _ ne];exact g)),c,d⟩
 show wpAny (model prog w) A _ P E {s with heap:=((s.heap.update a (Obj.mapSeq fun _=>#[])).push (seqObj "tuple" vs.toArray 0)).push (seqObj "list" #[] 0)};dsimp only;have hsz:vs.toArray.size=vs.length:=by simp
 by_cases h2:vs.toArray.size<2
 · rw[if_pos h2,if_pos h2];refine wB (wP ?_);rw[StateT.run_pure];refine wB (wP ?_);dsimp only;refine wB (seqEpoch_at ho6 rfl ?_);refine wB (listUpdate_at ho6 rfl ?_ (hsz2:=by rw[Array.size_map];show (pairsOf vs).size≤_;rw[pairsOf_size,sizeLine_eq];lia));simp only[bne_self_eq_false,Bool.false_eq_true,if_false];refine wP (h _ (fun v hv=>?_) ?_)
   · have e:((arrOf (SortSt.mk' general' (vs.toArray.zip vs.toArray) #[] 7 none)).map (·.2)).toList=vs:=by
      show ((vs.toArray.zip vs.toArray).map (·.2)).toList=vs;simp[List.map_snd_zip]
     rw[e] at hv;exact hv
   · show ((vs.toArray.zip vs.toArray).map (·.2)).size=vs.length;simp
 · rw[if_neg h2,if_neg h2];have hpos:0<vs.length:=by lia
   obtain⟨fs,kt,hfl,hfs⟩:∃ fs,KatTups (((s.heap.update a (Obj.mapSeq fun _=>#[])).push (seqObj "tuple" vs.toArray 0)).push (seqObj "list" #[] 0)) vs fs∧fs.length=vs.length∧∀ v∈fs,∃ x t,v=Value.str x t:=by
    clear h hpos h64 hsz h2 ho6;generalize (((s.heap.update a (Obj.mapSeq fun _=>#[])).push (seqObj "tuple" vs.toArray 0)).push (seqObj "list" #[] 0))=hh at ht6;clear ht ho ho1
    induction vs with
    | nil=>exact⟨[],KatTups.nil,rfl,fun v hv=>by cases hv⟩
    | cons v r ih =>
     obtain⟨fs,k1,k2,k3⟩:=ih fun y hy=>ht6 y (mCM _ hy);obtain⟨b,o,x,t,i,u,k,rfl,g,c,d⟩:=ht6 v mCS;refine⟨.str x t::fs,KatTups.cons g c d rfl k1,by simp[k2],fun y hy=>?_⟩
     rcases List.mem_cons.mp hy with rfl | hy
     · exact⟨x,t,rfl⟩
     · exact k3 y hy
   refine wB (kat_kind (T:=.type "str") kt (by lia) (fun v hv=>?_) (by decide) ?_)
   · obtain⟨x,t,rfl⟩:=hfs v hv;exact .now
   · have hk:(kas_sort vs.length).kasWp (kas_ask prog w A (tuples' (Value.type "str" != Value.type "tuple")) vs) (fun p s'=>bO vs.length p∧s'={s with heap:=((s.heap.update a (Obj.mapSeq fun _=>#[])).push (seqObj "tuple" vs.toArray 0)).push (seqObj "list" #[] 0)}) {s with heap:=((s.heap.update a (Obj.mapSeq fun _=>#[])).push (seqObj "tuple" vs.toArray 0)).push (seqObj "list" #[] 0)}:=by
      refine cZ.wp (R:=bO vs.length) (fun i j C hij hC=>?_) (fun p hp=>⟨hp,rfl⟩) _ (qQ hpos);have gi:vs.getD i Value.none∈vs:=by
       rw[List.getD_eq_getElem?_getD,gEE hij.1];exact List.getElem_mem hij.1
      have gj:vs.getD j Value.none∈vs:=by
       rw[List.getD_eq_getElem?_getD,gEE hij.2];exact List.getElem_mem hij.2
      exact sC (ht6 _ gi) (ht6 _ gj) hC
     refine wB (wpAny_mono (kat_run (Q:=fun st' s'=>∃ p:Array Nat,p.size=vs.length∧arrOf st'=p.map (kas_item (vs.toArray.zip vs.toArray))∧failedOf st'=none∧bO vs.length p∧s'={s with heap:=((s.heap.update a (Obj.mapSeq fun _=>#[])).push (seqObj "tuple" vs.toArray 0)).push (seqObj "list" #[] 0)})
       rfl (by lia) h64 (fun p' st' s' a1 a2 a3 a4=>⟨p',a1,a2,a3,a4⟩) hk) ?_ fun _ _ e=>e)
     rintro⟨⟨⟩,st'⟩ s' ⟨p,hp,har,hf,hsm,rfl⟩;dsimp only;have hout:=kat_snds rfl har;rw[hout];refine wB (seqEpoch_at ho6 rfl ?_);refine wB (listUpdate_at ho6 rfl ?_ (hsz2:=by rw[List.size_toArray,lMp,Array.length_toList,hp,sizeLine_eq];lia));rw[hf];simp only[bne_self_eq_false,Bool.false_eq_true,if_false];refine wP (h _ (fun v hv=>?_) (by rw[List.size_toArray,lMp,Array.length_toList,hp]));have hv':v∈p.toList.map fun i=>vs.getD i Value.none:=hv;obtain⟨i,hi,rfl⟩:=List.mem_map.mp hv';have hil:i<vs.length:=hsm.2 i (by simpa using hi);rw[List.getD_eq_getElem?_getD];rw[gEE hil];exact List.getElem_mem hil
theorem jk {l:Addr} {vs:List Value} {Q:VSP} (hl:s.heap.IsList l vs.toArray) (ht:∀ v∈vs,fC s.heap v) (h64:vs.length<64)
 (h:∀ out:Array Value,(∀ v∈out.toList,v∈vs)→out.size=vs.length→Q (.ref (s.heap.objs.size+1)) {s with heap:=sortedAll s.heap vs out}) :
 wpAny (model prog w) A (call (.builtin "sorted") [.ref l]) Q E s:=by
 refine Calls.call_function_entry kind_sorted plain_sorted entry_sorted (args_sorted1 _) ?_;unfold Builtin.«sorted»;refine wB (m:=checkCount "sorted" 1 1 _) (wP ?_);refine wB (collect_list hl ?_);refine wB (wpAny_newList ?_);have hsz:((s.heap.push (seqObj "list" #[] 0)).update s.heap.objs.size (Obj.mapSeq (·++vs.toArray))).objs.size=s.heap.objs.size+1:=by
  rw[Heap.size_update,size_push']
 have hoL:(((s.heap.push (seqObj "list" #[] 0)).update s.heap.objs.size (Obj.mapSeq (·++vs.toArray))).push (seqObj "list" vs.toArray 0)).get? (s.heap.objs.size+1)=some (seqObj "list" vs.toArray 0):=by
  rw[← hsz];exact Heap.get?_push_size _ rfl
 have ht':∀ v∈vs,fC (((s.heap.push (seqObj "list" #[] 0)).update s.heap.objs.size (Obj.mapSeq (·++vs.toArray))).push (seqObj "list" vs.toArray 0)) v:=fun v hv=>by
  obtain⟨b,o,x,t,i,u,k,rfl,g,c,d⟩:=ht v hv;have hlt:b<s.heap.objs.size:=Heap.lt_size g;refine⟨b,o,x,t,i,u,k,rfl,hpS _ ?_,c,d⟩;rw[Heap.get?_update_ne _ _ _ _ (Nat.ne_of_lt hlt)];exact hpS _ g
 show wpAny _ _ _ _ _ {s with heap:=((s.heap.push (seqObj "list" #[] 0)).update s.heap.objs.size (Obj.mapSeq (·++vs.toArray))).push (seqObj "list" vs.toArray 0)};rw[hsz];refine wB (wpAny_holding (wpAny_call_entry slot_list_sort ⟨_,hoL,rfl⟩ entry_list_sort (gx (s:={s with heap:=((s.heap.push (seqObj "list" #[] 0)).update s.heap.objs.size (Obj.mapSeq (·++vs.toArray))).push (seqObj "list" vs.toArray 0)}) hoL ht' h64 fun out a1 a2=>⟨_,rfl,?_⟩) (args_list_sort _)));exact wP ⟨_,rfl,h out a1 a2⟩
end
theorem jL:bootBuiltins "sorted"=some (.builtin "sorted"):=by decide +kernel
def u3 (K:Fg):List V→Hp→VK→Prop:=fun xs H Q=>∃ (p:Addr) (ys:List V),xs=[.ref p]∧SqL K H p ys∧ys.length<60∧(∀ y∈ys,∃ (a:Addr) (x:Str) (i:Int),y=.ref a∧H a=some (.tup [.str x,.int i]))∧∀ (l:Addr) (zs:List V),H l=none→zs.length=ys.length→Q (.ref l) (upd H l (.lst zs))
theorem jU {ys:List V} {vs:List Value} (h:aQ ys vs):∀ v∈vs,∃ y∈ys,aT y v:=by
 induction h with
 | nil=>exact fun v hv=>by cases hv
 | cons r t ih =>
  intro v hv
  rcases List.mem_cons.mp hv with rfl | hv
  · exact⟨_,mCS,r⟩
  · obtain⟨y,hy,ry⟩:=ih v hv;exact⟨y,mCM _ hy,ry⟩
theorem nn {ys:List V} {vs:List Value} (h:aQ ys vs):∀ out:List Value,(∀ v∈out,v∈vs)→∃ zs,aQ zs out:=by
 intro out
 induction out with
 | nil=>exact fun _=>⟨[],.nil⟩
 | cons v r ih =>
  intro hv;obtain⟨zs,hz⟩:=ih fun y hy=>hv y (mCM _ hy);obtain⟨y,_,ry⟩:=jU h v (hv v mCS);exact⟨y::zs,.cons ry hz⟩
section
variable {X:Cx}
theorem jI:fX X (.builtin "sorted") (u3 X.K):=by
 intro pins s σ H xs us Q I rv h;obtain⟨p,ys,rfl,hq,hl,hp,q⟩:=h;obtain⟨u,rfl,ru⟩:=jV rv;cases ru;obtain⟨its,rvs,pl,hz⟩:=I.list hq;have hlen:=rvs.length;have hpairs:∀ v∈its,fC s.heap v:=fun v hv=>by
  obtain⟨y,hy,ry⟩:=jU rvs v hv;obtain⟨a,x,i,rfl,ha⟩:=hp y hy;cases (show v=Value.ref a from ry);obtain⟨its2,r2,⟨o,g1,g2,n,g3⟩,_⟩:=I.tuple (SqT.of ha);obtain⟨u1,u2,e,⟨t1,rfl⟩,⟨t2,rfl⟩⟩:=r2.two;refine⟨a,o,x,t1,i,t2,n,rfl,g1,g2,?_⟩;rw[g3,e]
 refine jk pl.isList hpairs (by lia) fun out a1 a2=>?_;obtain⟨zs,rz⟩:=nn rvs out.toList a1;have zl:zs.length=out.size:=by rw[rz.length];exact Array.length_toList
 have k1:∀ b o,s.heap.get? b=some o→((s.heap.push (seqObj "list" #[] 0)).update s.heap.objs.size (Obj.mapSeq (·++its.toArray))).get? b=some o:=fun b o g=>by
  rw[Heap.get?_update_ne _ _ _ _ (Nat.ne_of_lt (Heap.lt_size g))];exact hpS _ g
 have hsz:((s.heap.push (seqObj "list" #[] 0)).update s.heap.objs.size (Obj.mapSeq (·++its.toArray))).objs.size=s.heap.objs.size+1:=by
  rw[Heap.size_update,size_push']
 have I1:Inv X pins σ H {s with heap:=(s.heap.push (seqObj "list" #[] 0)).update s.heap.objs.size (Obj.mapSeq (·++its.toArray))}:=I.kept (t':=s.toks) k1;have hp0:(((s.heap.push (seqObj "list" #[] 0)).update s.heap.objs.size (Obj.mapSeq (·++its.toArray))).push (seqObj "list" its.toArray 0)).get? ((s.heap.push (seqObj "list" #[] 0)).update s.heap.objs.size (Obj.mapSeq (·++its.toArray))).objs.size=some (seqObj "list" its.toArray 0):=Heap.get?_push_size _ rfl;have ll:zs.length≤sizeLine:=by
  have:(60:Nat)≤sizeLine:=by decide
  lia
 unfold sortedAll;rw[← hsz];generalize (s.heap.push (seqObj "list" #[] 0)).update s.heap.objs.size (Obj.mapSeq (·++its.toArray))=h4 at I1 hp0 ⊢;obtain⟨e,he⟩:=sortedHeap_at (out:=out) hp0;refine⟨.ref h4.objs.size,_,I1.turnedNew (t':=s.toks) (ch:=[]) (o:=.lst zs) (fun b z=>by cases z) (fun b o z g=>?_) ⟨ll,out.toList,e,rz,by rw[Array.toArray_toList];exact he⟩,rfl,q _ zs I1.fresh (by lia)⟩;have lb:b<h4.objs.size:=Heap.lt_size g;rw[sortedHeap_old (Nat.ne_of_lt lb) (by rw[Heap.size_push];exact Nat.lt_succ_of_lt lb)];exact hpS _ g
theorem oG {p pos:Pos} {e:Expr} {es:List Expr} {t:TA} (hm:X.mg "sorted"=none) (ha:PA X (e::es) t) (hg:Gl X "sorted":=by rfl)
 (he:starEach (e::es) X.env=(false,eval e X.env)::starEach es X.env:=by rfl) (hpl:(backTo pos (starEach es X.env)).any (·.1)=false:=by rfl) :
 PE X (.Call (.Name "sorted" p) (e::es) [] pos) (tCB (u3 X.K) t):=ic jI hg hm jL ha (he:=he) (hpl:=hpl)
end
end L2
namespace L2
open PySem PySem.Spec PyProof.Rows
def vc (K:Fg) (trs:List (TE×TE)):TE:=fun σ H Q=>∀ p,H p=none→K.lookup p=none→ji trs σ (upd H p (.dK [])) fun ps H2=>H2 p=some (.dK [])∧∃ kvs:List (Key×V),ps=kvs.map (fun kv=>(kV kv.1,kv.2))∧kvs.length≤15∧Q (.ref p) (upd H2 p (.dK (bQ [] kvs)))
theorem qf {X:Cx} {pos:Pos} {keys:List (Option Expr)} {values:List Expr} {trs:List (TE×TE)} (h:PPs X pos keys values trs) (hall:keys.all (·.isSome)=true) (hl:keys.length=values.length) (h0:keys≠[])
 (h15:keys.length≤15):PE X (.Dict keys values pos) (vc X.K trs):=by
 intro pins s σ H Q I q;have hn:=I.hok.fresh (Nat.le_refl s.heap.objs.size);have hk:X.K.lookup s.heap.objs.size=none:=by
  cases e:X.K.lookup s.heap.objs.size with
  | none=>rfl
  | some o=>exact absurd (Heap.lt_size (I.kIn _ o e)) (Nat.lt_irrefl _)
 have I1:=I.laid (a:=s.heap.objs.size) (o:=.dK []) (h':=s.heap.push {cls:=.type "dict",data:=.dict #[]}) (t':=s.toks) (fun _ _ q=>hpS _ q) (Nat.le_refl _) (iu s.heap I.big);refine wpAny_Dict_walk (knd:=ax X.prog X.w) hall hl h0 h15 (thn (h pins _ σ _ _ I1 (q _ hn hk)) fun ws s2 zy100=>?_);obtain⟨ps,H2,I2,rel,e,kvs,ep,lk,q2⟩:=zy100;subst ep;obtain⟨rs,c,rk⟩:=fq (P:=X.prog) (w:=X.w) rel;obtain⟨z,hd,vs0,r0,dd⟩:=kO I2.hok e;cases r0;refine⟨rs,c,dd,fun h' dd' hs=>⟨.ref s.heap.objs.size,_,?_,rfl,q2⟩⟩;have hz:(bQ [] kvs).length≤sizeLine:=by
  have h1:=cF kvs [];rw[List.length_nil] at h1;rw[sizeLine_eq];lia
 obtain⟨q',_,_,hq,_⟩:=id dd';exact dF I2 (by rw[e];exact True.intro) hs ⟨q',hq⟩ (jD hz hd (rk.merge .nil) dd')
end L2
namespace K12
open PySem L2 P10
def fD (t:Str×Int×PyData):PyData:=.tuple [.str t.1,.int t.2.1,t.2.2]
theorem rY {td ty tv:TE} {D:eO} {σ:St} {H:Hp}:tY td ty tv D σ H=tv σ H fun v H1=>td σ H1 fun x H2=>ty σ H2 fun y H3=>rC x y v H3 (D.nx σ):=rfl
def AS (fds:List (Str×Int×PyData)) (skv:NKV):Prop:=∀ x∈skv,∃ fn path t,x.1=nk fn path∧fds[fn]?=some t∧AtP t.2.2 path
section
variable {P:Program} {w:World} {K:Fg} {H H':Hp} {A:Adr} {n:Nat} {ns:List Int} {fo:Addr} {fl:FL} {N:Nat} {skv:NKV}
theorem SG.fr (x:SG P w K H A n ns fo fl N skv) {W:Addr} (h:H W=none):Fr K (C0 A ns fo fl) W:=by
 obtain⟨⟨m,k,B,si,r⟩,fe⟩:=x;have ne:∀ {b:Addr} {o:HO},H b=some o→W≠b:=fun {b o} hb e=>by rw[e,hb] at h;cases h
 refine⟨si.new h,ne si.rv,ne fe.fv,fun y hy=>ne (fe.fs y hy).inn,si.al.imp_right fun zy1=>?_⟩;obtain⟨b,hb⟩:=zy1;exact ne hb
theorem SG.updL (x:SG P w K H A n ns fo fl N skv) {W:Addr} (f:Fr K (C0 A ns fo fl) W) {xs ys:List V} (hW:H W=some (.lst xs)):SG P w K (upd H W (.lst ys)) A n ns fo fl N skv:=by
 obtain⟨⟨m,k,B,si,r⟩,fe⟩:=x;refine⟨⟨m,k,B,si.updL hW f.rs f.ro f.al,r⟩,⟨by rw[a9 (Ne.symm f.fo)];exact fe.fv,fun y hy=>?_,fe.le,fe.nfo,fe.nf,fe.inn⟩⟩;obtain⟨⟨mf,⟨kvs,h1,h2⟩,r⟩,i⟩:=fe.fs y hy;exact⟨⟨mf,⟨kvs,by rw[a9 fun e=>by rw[e,hW] at h1;cases h1];exact h1,h2⟩,r⟩,by rw[a9 (Ne.symm (f.inn y hy))];exact i⟩
theorem SG.same (x:SG P w K H A n ns fo fl N skv) (e:ak H H'):SG P w K H' A n ns fo fl N skv:=by
 obtain⟨⟨m,k,B,si,r⟩,fe⟩:=x;exact⟨⟨m,k,B,si.same e,r⟩,⟨e _ _ fe.fv,fe.fs.same e,fe.le,fe.nfo,fe.nf,fe.inn⟩⟩
theorem SG.kpF (x:SG P w K H A n ns fo fl N skv) {f:Addr} (kf:cY A f H H') {b:Addr} {o:HO} (h:H b=some o) (h0:b≠f) (h1:b≠A.s) (h2:b∉A.rs) (h3:∀ kv,o≠.dT kv) (h4:∀ φ,o≠.ext φ):H' b=some o:=by
 obtain⟨⟨m,k,B,si,r⟩,fe⟩:=x;exact si.kp (H':=upd H' f ((H f).getD (.lst []))) (fun b o g1 g2 g3 g4 g5 g6 e=>by
   by_cases z:b=f
   · rw[z,pG,← z,e];rfl
   · rw[a9 z];exact kf b o z g1 g2 g3 g4 g5 g6 e) h h1 h2 h3 h4|>fun z=>by rw[a9 h0] at z;exact z
theorem SG.kLF (x:SG P w K H A n ns fo fl N skv) {f:Addr} (kf:cY A f H H') (hf:∃ kvs,H f=some (.dK kvs)) {b:Addr} {xs:List V} (h:H b=some (.lst xs)) (h2:b∉A.rs):H' b=some (.lst xs):=by
 obtain⟨⟨m,k,B,si,r⟩,fe⟩:=id x;exact x.kpF kf h (fun e=>by obtain⟨kvs,z⟩:=hf;rw[e,z] at h;cases h) (si.sne h fun _ z=>nomatch z) h2 (fun _ z=>nomatch z) (fun _ z=>nomatch z)
theorem SG.tkF (x:SG P w K H A n ns fo fl N skv) {f:Addr} (kf:cY A f H H') (hf:∃ kvs,H f=some (.dK kvs)):Tk H H':=fun b xs h=>by
 obtain⟨⟨m,k,B,si,r⟩,fe⟩:=id x;have ne:∀ {o:HO},H b=some o→(∀ kvs,o≠.dK kvs)→b≠f:=fun {o} h hd e=>by obtain⟨kvs,z⟩:=hf;rw[e,z] at h;exact hd _ (Option.some.inj h).symm
 rcases h with h | ⟨o,h⟩
 · exact .inl (x.kpF kf h (ne h fun _ z=>nomatch z) (si.sne h fun _ z=>nomatch z) (si.nrs h fun _ z=>nomatch z) (fun _ z=>nomatch z) (fun _ z=>nomatch z))
 · exact .inr ⟨o,x.kpF kf h (ne h fun _ z=>nomatch z) (si.sne h fun _ z=>nomatch z) (si.nrs h fun _ z=>nomatch z) (fun _ z=>nomatch z) (fun _ z=>nomatch z)⟩
theorem SG.kDF (x:SG P w K H A n ns fo fl N skv) {f:Addr} (kf:cY A f H H') {b:Addr} {kvs:List (Key×V)} (h:H b=some (.dK kvs)) (h0:b≠f) (h1:b≠A.s):H' b=some (.dK kvs):=by
 obtain⟨⟨m,k,B,si,r⟩,fe⟩:=id x;exact x.kpF kf h h0 h1 (si.nrs h fun _ z=>nomatch z) (fun _ z=>nomatch z) (fun _ z=>nomatch z)
end
section
variable {P:Program} {w:World} {K:Fg} {mg:SOV} {base:Heap}
abbrev sMa:Stmt:=top 34
abbrev nMa:List Str:=["_law_script","_law_state","_law_names","_law_functions","_law_records","_law_form_here","_law_reply","_law_opens"]
theorem yj:aB nMa ["_law_script"] (a7 sMa):=fsM
theorem BI:(["_law_k"]:List Str).Nodup:=by decide +kernel
theorem BO:(["_law_form_here"]:List Str).Nodup:=by decide +kernel
inductive uz (P:Program) (w:World) (K:Fg) (vs:List V) (H:Hp) (Q:VK):Prop
  | mk (a:Addr) (ns:List Int) (g0_:vs=[.ref a]) (g1_:SqL K H a (ns.map V.int)) (g2_:ns.length≤63) (g3_:∀ (s sp c cf:Addr) (skv:NKV) (fvs:List V) (fds:List (Str×Int×PyData)) (v2 v3:V) (H':Hp),(∃ a n m k,Pk K H' s n m a ns k∧k<900000∧m "spans"=some (.ref sp)∧m "core"=some (.ref c))→H' sp=some (DN P w sp skv)→dJ H' skv→H' c=some (.tup [.ref cf,v2,v3])→H' cf=some (.tup fvs)→TDs K H' fvs (fds.map fD)→(∀ t∈fds,OkF t.2.1 t.2.2∧(PyData.str t.1).canLay0=true)→AS fds skv→fds.length≤9→Q (.ref s) H'):uz P w K vs H Q
def xM (P:Program) (w:World) (K:Fg):Sp:=fun vs H Q _=>uz P w K vs H Q
theorem AN {H:Hp} {a:Addr} {ns:List Int} (h:SqL K H a (ns.map V.int)):KL K a ns∨∃ b,H a=some b:=by
 rcases h with (h | ⟨o,h⟩) | h
 · exact .inr ⟨_,h⟩
 · exact .inr ⟨_,h⟩
 · exact .inl h
theorem zn (D:Def K mg "_law_made" sMa) (T:Blt mg) (ab:Fn P w K mg base "_law_pick" 2 ["_law_state","_law_many"] (iD K)) (l8:Fn P w K mg base "_law_heads" 6 ["_law_state"] (xO K)) (m9:Fn P w K mg base "_law_fill" 31 vK (xR P w K)):Fn P w K mg base "_law_made" 32 ["_law_script"] (xM P w K):=by
 refine D.fn yj (fun vs H Q E h=>?_) (fun _ _ _ _ _ _ us hl=>by obtain⟨a,rfl⟩:=eK hl;rfl) (fun f cdv Ar outer s' H vs Q E hr h=>?_)
 · obtain⟨a,ns,rfl,_⟩:=h;rfl
 · obtain⟨a,ns,rfl,hS,hlen,q⟩:=h;have nd:=yj.nd;have hu:=bX hr;have hz0:(1000000:Nat)<sizeLine:=by decide
   have al:=AN hS;obtain⟨t5,h5,q5⟩:∃ t,PSs (cJ CX0 P w K mg base nMa "_law_made" (a7 sMa) f cdv Ar outer s' H E).nox ((aW sMa).drop 5) t ∧
    ∀ (A:Adr) (fo:Addr) (fl:FL) (Hh H1:Hp) (x2:Option V),SG P w K H1 A 9 ns fo fl 300 []→fl.length≤9→iL Hh H1 A.rs.length fl→t {nx:=fun _ H'=>Q .non H',rt:=Q} [some (.ref a),some (.ref A.s),x2,none,none,none,none,none] H1:=by
    refine⟨_,(pE (pN (i:=3) nd rfl (Or.inl rfl) (ag pC)) (pE (pN (i:=4) nd rfl (Or.inl rfl) (ag pC)) (pE (bp PassesOwn.never rfl (bu (pM hu (pv 1) pD (fun _ _=>rfl))) (ae (i:=5) nd rfl (Or.inl rfl)) (pE (pN (i:=6) nd rfl (Or.inl rfl) (aa m9 (hr.mono (by decide)) rfl (pA (pv 1) (pA (pv 5) pC)))) (pI (aN (pO aV (pM hu (pv 5) pD (fun _ _=>rfl)) pD (pP _)) (pI (am (aX (pv 4) (pA (pv 6) pC)))) (pI (am (aX (pv 3) (pA (pv 6) pC)))))))) (pE (eR (i0:=7) (own:=["_law_form_here"]) (outs:=[]) rfl (aI.of (a7 sMa) nMa) (bu (pM hu (pv 1) pD (fun _ _=>rfl))) (fun _ _ _ _=>⟨(ae (i:=0) BO rfl (Or.inl rfl)),(cx (pO aV (pM hu (pv 0) pD (fun _ _=>rfl)) pD (pP _))),(au (pA (pM hu (pv 0) pD (fun _ _=>rfl)) (pA (pM hu (pv 0) pD (fun _ _=>rfl)) pC)))⟩) nd rfl rfl) (pE (bg hu (pv 1) pD (au (pA (cg T.tuple (pA (pv 3) pC)) (pA (cg T.tuple (pA (pv 4) pC)) (pA (cg T.tuple (pA (oG T.sorted (pA (pv 7) pC)) pC)) pC)))) rfl) (pI (az (pv 1)))))))),fun A fo fl Hh H1 x2 sg1 hfl hok=>?_⟩;dsimp only[bJ,bN,bM]
    with_reducible refine a0 fun DT Ay=>?_
    refine⟨ef,fun F hF=>?_⟩;refine Ay _ _ ?_
    with_reducible refine a0 fun DS Ax=>?_
    have k2:=smu (o:=HO.lst []) hF;have e_F:(upd H1 F (.lst [])) F=some (.lst []):=pG;have frF:=sg1.fr hF;generalize upd H1 F (.lst [])=H2 at k2 e_F ⊢;have sg2:=sg1.same k2;refine⟨ef,fun R hR=>?_⟩;refine Ax _ _ ?_
    with_reducible refine a0 fun qi ir=>?_
    have k3:=smu (o:=HO.lst []) hR;have e_R:(upd H2 R (.lst [])) R=some (.lst []):=pG;have frR:=sg2.fr hR;have FR:F≠R:=fun e=>by rw[← e,e_F] at hR;cases hR
    replace e_F:=k3 _ _ e_F;generalize upd H2 R (.lst [])=H3 at k3 e_F e_R ⊢;have sg3:=sg2.same k3;have gfo:∀ {Hi:Hp} {n N:Nat} {skv:NKV},SG P w K Hi A n ns fo fl N skv→bR Hi A.s (.str "forms") (some (.ref fo)):=fun {Hi n N skv} g=>by
     obtain⟨⟨m,k,B,si,_,_,h⟩,_⟩:=g;exact si.pk.st.get h
    refine⟨_,rfl,A.s,_,rfl,gfo sg3,fo,rfl,⟨_,SqL.of sg3.fe.fv⟩,?_⟩;show aw _ _ _ _ _ _;refine aw.byN (aK (xs:=fl.map fun x=>V.ref x.1)) (fun i σ Hi=>(∃ (skv:NKV) (fvs:List V) (fds:List (Str×Int×PyData)) (rvs:List V),SG P w K Hi A (9+6*i) ns fo fl (300+65000*i) skv∧Hi F=some (.lst fvs)∧TDs K Hi fvs (fds.map fD)∧(∀ t∈fds,OkF t.2.1 t.2.2∧(PyData.str t.1).canLay0=true)∧fds.length=((fl.take i).filter (bw "function")).length∧AS fds skv∧Hi R=some (.lst rvs)∧rvs.length≤i)∧(∀ j x,i≤j→fl[j]?=some x→∃ kvs,Hi x.1=some (.dK kvs)∧kvs.length≤10)∧∃ x5 x6,σ=[some (.ref a),some (.ref A.s),x2,some (.ref F),some (.ref R),x5,x6,none])
     ⟨⟨[],[],[],[],sg3,e_F,.nil,by simp,rfl,fun x hx=>absurd hx nMN,e_R,Nat.le_refl _⟩,fun j x _ hx=>?_,_,_,rfl⟩ (fun i σ Hi _ z=>?_) ?_ ?_
    · obtain⟨kvs,h1,h2⟩:=hok.few x (mGE hx);exact⟨kvs,k3 _ _ (k2 _ _ h1),h2⟩
    · obtain⟨⟨skv,fvs,fds,rvs,sg,_⟩,_⟩:=z;exact SqL.of sg.fe.fv
    · rintro i v σ Hi DI B_ ub hB_ hv ⟨⟨skv,fvs,fds,rvs,sg,hFi,htd,hoe,hfl',hsp,hRi,hrl⟩,hfew,x5,x6,rfl⟩;have hin:i<fl.length:=by have:=(gES.mp hv).1;rwa [lMp] at this
      rw[gEM] at hv;obtain⟨x,hx,rfl⟩:=oMS.mp hv;have hxm:=mGE hx;obtain⟨p,hp1,hp2⟩:=hok.pt x hxm;have few:=hfew i x (Nat.le_refl _) hx;have hfd:∃ kvs,Hi x.1=some (.dK kvs):=few.imp fun kvs z=>z.1;refine⟨_,rfl,_,rfl,A,_,ns,fo,fl,_,skv,x,p,A.rs[p],_,rfl,sg,by lia,by lia,hxm,hp2,gEE hp1,hok.num i x hx,hok.so x hxm,few,fun v H4 skv4 kf sg4 told=>?_⟩;have hF4:=sg.kLF kf hfd hFi frF.rs;have hR4:=sg.kLF kf hfd hRi frR.rs;have htd4:=htd.tk (sg.tkF kf hfd);have few4:∀ j y,i+1≤j→fl[j]?=some y→∃ kvs,H4 y.1=some (.dK kvs)∧kvs.length≤10:=fun j y hj hy=>by
       obtain⟨kvs,h1,h2⟩:=hfew j y (b_p) hy;refine⟨kvs,sg.kDF kf h1 (fun e=>?_) (sg.fe.nf y (mGE hy)).1,h2⟩;have hjl:j<fl.length:=(gES.mp hy).1;have h3:(fl.map (·.1))[j]?=some x.1:=by rw[gEM,hy,← e];rfl
       have h4:(fl.map (·.1))[i]?=some x.1:=by rw[gEM,hx];rfl
       have:=(List.getElem?_inj (by rw[lMp];exact hjl) hok.nd).mp (h3.trans h4.symm);lia
      have gso:bR H4 x.1 (.str "sort") (some (.str x.2.sort)):=by
       obtain⟨⟨mf,stf,f1,f2,f3,f4,f5,f6⟩,_⟩:=sg4.fe.fs x hxm;exact stf.get f3
      have fl1:=htd4.length;rw[lMp] at fl1;have hfll:fds.length≤i:=by rw[hfl'];exact Nat.le_trans (List.length_filter_le _ _) (by rw[lTk];exact CI)
      have hstep:=dw (bw "function") hx;refine⟨_,rfl,x.1,_,rfl,gso,rfl,_,rfl,?_⟩;by_cases hrec:x.2.sort="record"
      · refine pL (by simp[hrec]) ⟨_,rfl,.inl ⟨rfl,_,SqL.of hR4⟩,_,rfl,R,_,_,rfl,rfl,hR4,mR,?_⟩;refine ub _ _ ?_;have e:skv4=skv:=by
         rcases told with ⟨_,e⟩ | ⟨e,_⟩
         · exact e
         · rw[hrec] at e;exact absurd e (by decide +kernel)
        have hsn:bw "function" x=false:=by unfold bw;rw[hrec];decide +kernel
        refine⟨⟨skv4,fvs,fds,rvs++[v],?_,by rw[a9 FR];exact hF4,htd4.tk (bC (.inr ⟨_,hR4⟩)),hoe,by rw[hstep,hsn];simpa using hfl',by rw[e];exact hsp,pG,by simp;assumption⟩,fun j y hj hy=>?_,_,_,rfl⟩
        · rw[show 9+6*(i+1)=9+6*i+6 by lia,show 300+65000*(i+1)=300+65000*i+65000 by lia];exact sg4.updL frR hR4
        · obtain⟨kvs,h1,h2⟩:=few4 j y hj hy;exact⟨kvs,by rw[a9 fun e=>by rw[e,hR4] at h1;cases h1];exact h1,h2⟩
      · refine pK (by simp[hrec]) ⟨_,rfl,.inl ⟨rfl,_,SqL.of hF4⟩,_,rfl,F,_,_,rfl,rfl,hF4,by lia,?_⟩;refine ub _ _ ?_
        rcases told with ⟨e,_⟩ | ⟨hfun,d,c,td,ok,gr⟩
        · exact absurd e hrec
        have hsn:bw "function" x=true:=by unfold bw;rw[hfun];decide +kernel
        have hnum:((fl.take i).filter (bw x.2.sort)).length=fds.length:=by rw[hfun];exact hfl'.symm
        rw[hnum] at gr;refine⟨⟨skv4,fvs++[v],fds++[(x.2.head,c,d)],rvs,?_,pG,?_,fun t ht=>?_,by rw[hstep,hsn,lAp,lAp,hfl'];rfl,fun y hy=>?_,by rw[a9 (Ne.symm FR)];exact hR4,c_a⟩,fun j y hj hy=>?_,_,_,rfl⟩
        · rw[show 9+6*(i+1)=9+6*i+6 by lia,show 300+65000*(i+1)=300+65000*i+65000 by lia];exact sg4.updL frF hF4
        · rw[List.map_append];exact (htd4.snoc td).tk (bC (.inr ⟨_,hF4⟩))
        · rcases mAp.mp ht with ht | ht
          · exact hoe t ht
          · rw[mSg.mp ht];exact⟨ok,hok.lay x hxm⟩
        · rcases gr y hy with ⟨u,hu1,hu2⟩ | ⟨q1,hq1,hq2⟩
          · obtain⟨fn,path,t,g1,g2,g3⟩:=hsp u hu1;exact⟨fn,path,t,hu2.symm.trans g1,by rw[List.getElem?_append_left (gES.mp g2).1];exact g2,g3⟩
          · exact⟨fds.length,q1,_,hq2,by rw[List.getElem?_append_right (Nat.le_refl _),Nat.sub_self];rfl,hq1⟩
        · obtain⟨kvs,h1,h2⟩:=few4 j y hj hy;exact⟨kvs,by rw[a9 fun e=>by rw[e,hF4] at h1;cases h1];exact h1,h2⟩
    · rintro σ Hi ⟨⟨skv,fvs,fds,rvs,sg,hFi,htd,hoe,hfl',hsp,hRi,hrl⟩,hfew,x5,x6,rfl⟩;refine ir _ _ ?_
      with_reducible refine a0 fun Dx Af=>?_
      rw[lMp] at sg hrl;rw[cz,cj];refine⟨_,rfl,A.s,_,rfl,gfo sg,fo,rfl,⟨_,SqL.of sg.fe.fv⟩,fun L hL=>?_⟩;refine b6.by (aK (xs:=fl.map fun x=>V.ref x.1)) (fun j σ Hj=>ak Hi Hj∧(∃ ys,Hj L=some (.lst ys)∧ys.length≤j∧∀ y∈ys,∃ (b:Addr) (nm:Str) (i:Int),y=.ref b∧Hj b=some (.tup [.str nm,.int i]))∧∃ y,σ=[y]) ⟨smu hL,⟨[],pG,Nat.le_refl _,by simp⟩,_,rfl⟩ (fun j σ Hj _ z=>SqL.of (z.1 _ _ sg.fe.fv)) ?_ ?_
      · rintro j v σ Hj hv ⟨sj,⟨ys,hLj,hyl,hys⟩,y,rfl⟩;have hj:j<fl.length:=by have:=(gES.mp hv).1;rwa [lMp] at this
        rw[gEM] at hv;obtain⟨fx,hfx,rfl⟩:=oMS.mp hv;obtain⟨⟨mf,stf,f1,f2,f3,f4,f5,f6⟩,_⟩:=(sg.fe.fs fx (mGE hfx)).same sj;rw[aL];refine⟨_,rfl,fx.1,_,rfl,stf.get f2,rfl,_,rfl,?_⟩;split
        · refine⟨_,rfl,fx.1,_,rfl,stf.get f4,_,rfl,fx.1,_,rfl,stf.get f6,gu,fun u hu'=>?_⟩;have ku:=smu (o:=HO.tup [V.str fx.2.name,V.int fx.2.number]) hu';have hLu:=ku _ _ hLj;refine⟨_,hLu,mR,aG (sj.trans ku) hL,⟨_,pG,by simp;assumption,fun z hz=>?_⟩,_,rfl⟩;have stay:∀ {b:Addr} {xs:List V},(upd Hj u (.tup [V.str fx.2.name,V.int fx.2.number])) b=some (.tup xs)→(upd (upd Hj u (.tup [V.str fx.2.name,V.int fx.2.number])) L (.lst (ys++[V.ref u]))) b=some (.tup xs):=fun {b xs} h=>by
           rw[a9 fun e=>by rw[e,hLu] at h;cases h];exact h
          rcases mAp.mp hz with hz | hz
          · obtain⟨b,nm,i,e1,e2⟩:=hys z hz;exact⟨b,nm,i,e1,stay (ku _ _ e2)⟩
          · exact⟨u,_,_,mSg.mp hz,stay pG⟩
        · exact⟨sj,⟨ys,hLj,c_a,hys⟩,_,rfl⟩
      · rintro σ Hj ⟨sj,⟨ys,hLj,hyl,hys⟩,y,rfl⟩;refine Af _ _ ?_;rw[lMp] at hyl;refine⟨_,rfl,F,_,rfl,.inl ⟨SqL.of (sj _ _ hFi),fun cf hcf=>?_⟩⟩;have k4:=smu (o:=HO.tup fvs) hcf;have e_cf:(upd Hj cf (.tup fvs)) cf=some (.tup fvs):=pG;generalize upd Hj cf (.tup fvs)=H4 at k4 e_cf ⊢;refine⟨_,rfl,R,_,rfl,.inl ⟨SqL.of (k4 _ _ (sj _ _ hRi)),fun cr hcr=>?_⟩⟩;have k5:=smu (o:=HO.tup rvs) hcr;generalize upd H4 cr (.tup rvs)=H5 at k5 ⊢;have K5:=k4.trans k5;refine⟨_,rfl,L,ys,rfl,SqL.of (K5 _ _ hLj),by lia,fun z hz=>?_,fun l zs hl hzl=>?_⟩
        · obtain⟨b,nm,i,e1,e2⟩:=hys z hz;exact⟨b,nm,i,e1,K5 _ _ e2⟩
        have k6:=smu (o:=HO.lst zs) hl;refine⟨l,zs,rfl,.inl ⟨SqL.of pG,fun co hco=>?_⟩⟩;generalize upd H5 l (.lst zs)=H6 at k6 hco ⊢;have k7:=smu (o:=HO.tup zs) hco;refine⟨ee,fun c hc=>?_⟩;generalize upd H6 co (.tup zs)=H7 at k7 hc ⊢;have k8:=smu (o:=HO.tup [V.ref cf,V.ref cr,V.ref co]) hc;have e_c:(upd H7 c (.tup [V.ref cf,V.ref cr,V.ref co])) c=some (.tup [V.ref cf,V.ref cr,V.ref co]):=pG;generalize upd H7 c (.tup [V.ref cf,V.ref cr,V.ref co])=H8 at k8 e_c ⊢;have K8:ak Hi H8:=sj.trans (K5.trans (k6.trans (k7.trans k8)));have e_cf8:=k8 _ _ (k7 _ _ (k6 _ _ (k5 _ _ e_cf)));obtain⟨⟨m,k,B,si,hk8,_,hmf⟩,fe⟩:=sg.same K8;have hn9:9+6*fl.length+1≤1000:=by lia
        have hk9:k<900000:=by lia
        obtain⟨H9,dp9,mo9,st9⟩:=si.pk.st.new "core" (.ref c) si.pk.hn;refine⟨_,rfl,A.s,H9,rfl,dp9,_,rfl,?_⟩;have nes:∀ {b:Addr} {o:HO},H8 b=some o→(∀ kvs,o≠.dK kvs)→H9 b=some o:=fun {b o} h hd=>by rw[mo9 b (si.sne h hd)];exact h
        have tk9:Tk H8 H9:=fun b xs h=>by
         rcases h with h | ⟨o,h⟩
         · exact .inl (nes h fun _ z=>nomatch z)
         · exact .inr ⟨o,nes h fun _ z=>nomatch z⟩
        exact q A.s A.sp c cf skv fvs fds _ _ H9 ⟨_,_,_,k,⟨st9,hn9,by rw[aj _ _ (by decide +kernel)];exact si.pk.sc,si.pk.ne,SqL.mo si.pk.sq mo9 si.pk.ne,si.pk.len,by rw[aj _ _ (by decide +kernel)];exact si.pk.hk,si.pk.k0⟩,hk9,by rw[aj _ _ (by decide +kernel)];exact si.sp,be _ _ _⟩ (nes si.sv fun _ z=>nomatch z) (si.sa.keep fun c ys z=>nes z fun _ z=>nomatch z) (nes e_c fun _ z=>nomatch z) (nes e_cf8 fun _ z=>nomatch z) ((htd.same K8).tk tk9) hoe hsp (by have z:=List.length_filter_le (bw "function") (fl.take (fl.map fun x=>V.ref x.1).length);rw[lTk] at z;omega)
   refine⟨_,(pE (pN (i:=1) nd rfl (Or.inl rfl) (@qf _ _ _ _ _ (@bF _ _ _ _ _ _ _ _ _ pD (pv 0) (@bF _ _ _ _ _ _ _ _ _ pD pH (@bF _ _ _ _ _ _ _ _ _ pD (ag pC) (@bF _ _ _ _ _ _ _ _ _ pD kA (@bF _ _ _ _ _ _ _ _ _ pD kA (@bF _ _ _ _ _ _ _ _ _ pD kB (@bF _ _ _ _ _ _ _ _ _ pD kB mB))))))) rfl rfl (by simp) (by decide))) (pE (bg hu (pv 1) pD (dU (own:=["_law_k"]) (outs:=[]) rfl (aI.of (a7 sMa) nMa) (bz rfl T.range (pA (aC bI pH (aa ab (hr.mono (by decide)) rfl (pA (pv 1) (pA pH pC)))) pC)) (fun _ _ _ _=>⟨(ae (i:=0) BI rfl (Or.inl rfl)),bL,(ag pC)⟩)) rfl) (pE (pN (i:=2) nd rfl (Or.inl rfl) (aq aH (ag (pA (ag (pA pD (pA pD (pA pD pC)))) (pA (ag (pA pD (pA pD (pA pD pC)))) (pA (ag (pA pD (pA pD (pA pD pC)))) pC)))) (aa ab (hr.mono (by decide)) rfl (pA (pv 1) (pA pH pC))) (fun _ _=>rfl))) (pE (bg hu (pv 1) pD (cs gE (pv 2) cQ (bH (bc T.len (pA (pM hu (pv 1) pD (fun _ _=>rfl)) pC)))) rfl) (pE (am (aa l8 (hr.mono (by decide)) rfl (pA (pv 1) pC))) h5))))),?_⟩;dsimp only[bJ,bN,bM];refine fun s hs hKs=>⟨_,rfl,ef,fun fo hfo=>?_⟩;have k1:=smu (o:=HO.dK []) hs;have e_s:(upd H s (.dK [])) s=some (.dK []):=pG;generalize upd H s (.dK [])=H1 at k1 e_s hfo ⊢;have k2:=smu (o:=HO.lst []) hfo;have e_fo:(upd H1 fo (.lst [])) fo=some (.lst []):=pG;replace e_s:=k2 _ _ e_s;generalize upd H1 fo (.lst [])=H2 at k2 e_s e_fo ⊢;refine fun th hth=>?_;have k3:=smu (o:=HO.dT []) hth;have e_th:(upd H2 th (.dT [])) th=some (.dT []):=pG;replace e_s:=k3 _ _ e_s;replace e_fo:=k3 _ _ e_fo;generalize upd H2 th (.dT [])=H3 at k3 e_s e_fo e_th ⊢;refine fun no hno=>?_;have k4:=smu (o:=HO.dT []) hno;have e_no:(upd H3 no (.dT [])) no=some (.dT []):=pG;replace e_s:=k4 _ _ e_s;replace e_fo:=k4 _ _ e_fo;replace e_th:=k4 _ _ e_th;generalize upd H3 no (.dT [])=H4 at k4 e_s e_fo e_th e_no ⊢;refine fun sp hsp=>?_;have k5:=smu (o:=DN P w sp []) hsp;have e_sp:(upd H4 sp (DN P w sp [])) sp=some (DN P w sp []):=pG;replace e_s:=k5 _ _ e_s;replace e_fo:=k5 _ _ e_fo;replace e_th:=k5 _ _ e_th;replace e_no:=k5 _ _ e_no;generalize upd H4 sp (DN P w sp [])=H5 at k5 e_s e_fo e_th e_no e_sp ⊢;refine fun se hse=>?_;have k6:=smu (o:=DN P w se []) hse;have e_se:(upd H5 se (DN P w se [])) se=some (DN P w se []):=pG;have ne_ss:sp≠se:=fun e=>by rw[e,hse] at e_sp;cases e_sp
   replace e_s:=k6 _ _ e_s;replace e_fo:=k6 _ _ e_fo;replace e_th:=k6 _ _ e_th;replace e_no:=k6 _ _ e_no;replace e_sp:=k6 _ _ e_sp;generalize upd H5 se (DN P w se [])=H6 at k6 e_s e_fo e_th e_no e_sp e_se ⊢;have S6:ak H H6:=k1.trans (k2.trans (k3.trans (k4.trans (k5.trans k6))));refine⟨e_s,[(.inr "script",.ref a),(.inr "k",.int 0),(.inr "forms",.ref fo),(.inr "things",.ref th),(.inr "nodes",.ref no),(.inr "spans",.ref sp),(.inr "seen",.ref se)],rfl,by show 7≤15;decide,?_⟩;have st7:=StV.made (H:=H6) (f:=s) [("script",.ref a),("k",.int 0),("forms",.ref fo),("things",.ref th),("nodes",.ref no),("spans",.ref sp),("seen",.ref se)] (n:=7) (by show 7≤7;decide);have eq7:(upd H6 s (.dK (bQ [] [(.inr "script",.ref a),(.inr "k",.int 0),(.inr "forms",.ref fo),(.inr "things",.ref th),(.inr "nodes",.ref no),(.inr "spans",.ref sp),(.inr "seen",.ref se)])))=(upd H6 s (.dK (bQ [] (([("script",.ref a),("k",.int 0),("forms",.ref fo),("things",.ref th),("nodes",.ref no),("spans",.ref sp),("seen",.ref se)]:List (Str×V)).map fun p=>((Sum.inr p.1:Key),p.2))))):=rfl;rw[eq7];have mo7:Mo H6 s (upd H6 s (.dK (bQ [] (([("script",.ref a),("k",.int 0),("forms",.ref fo),("things",.ref th),("nodes",.ref no),("spans",.ref sp),("seen",.ref se)]:List (Str×V)).map fun p=>((Sum.inr p.1:Key),p.2))))):=fun b hb=>a9 hb;generalize (upd H6 s (.dK (bQ [] (([("script",.ref a),("k",.int 0),("forms",.ref fo),("things",.ref th),("nodes",.ref no),("spans",.ref sp),("seen",.ref se)]:List (Str×V)).map fun p=>((Sum.inr p.1:Key),p.2)))))=H7 at st7 mo7 ⊢;have nes:∀ {b:Addr} {o:HO},H6 b=some o→(∀ kvs,o≠.dK kvs)→b≠s:=fun {b o} h hd e=>by rw[e,e_s] at h;exact hd _ (Option.some.inj h).symm
   have a_s:a≠s:=fun e=>by
    rcases al with ⟨o,_,_,h1,_⟩ | ⟨b,hb⟩
    · rw[e,hKs] at h1;cases h1
    · rw[e,hs] at hb;cases hb
   have n_fo:=nes e_fo fun _ z=>nomatch z;have n_th:=nes e_th fun _ z=>nomatch z;have n_no:=nes e_no fun _ z=>nomatch z;have n_sp:=nes e_sp fun _ z=>nomatch z;have n_se:=nes e_se fun _ z=>nomatch z;replace e_fo:H7 fo=some (.lst []):=by rw[mo7 fo n_fo];exact e_fo
   replace e_th:H7 th=some (.dT []):=by rw[mo7 th n_th];exact e_th
   replace e_no:H7 no=some (.dT []):=by rw[mo7 no n_no];exact e_no
   replace e_sp:H7 sp=some (DN P w sp []):=by rw[mo7 sp n_sp];exact e_sp
   replace e_se:H7 se=some (DN P w se []):=by rw[mo7 se n_se];exact e_se
   have al7:KL K a ns∨∃ b,H7 a=some b:=al.imp_right fun ⟨b,hb⟩=>⟨b,by rw[mo7 a a_s];exact S6 _ _ hb⟩;have fo_a:KL K a ns∨fo≠a:=al.imp_right fun ⟨b,hb⟩ e=>by rw[e,k1 _ _ hb] at hfo;cases hfo
   obtain⟨m7,hm7,st7⟩:∃ m:Str→Option V,(m "script"=some (.ref a)∧m "k"=some (.int 0)∧m "forms"=some (.ref fo)∧m "things"=some (.ref th)∧m "nodes"=some (.ref no)∧m "spans"=some (.ref sp)∧m "seen"=some (.ref se))∧StV H7 s 7 m:=⟨_,⟨rfl,rfl,rfl,rfl,rfl,rfl,rfl⟩,st7⟩;obtain⟨m_sc,m_k,m_fo,m_th,m_no,m_sp,m_se⟩:=hm7;have p7:Pk K H7 s 7 m7 a ns 0:=⟨st7,by decide,m_sc,a_s,SqL.mo (S6.seq hS) mo7 a_s,hlen,m_k,Int.le_refl _⟩;dsimp only;rw[aL,fZ,rY,cj];refine⟨_,rfl,s,a,7,m7,ns,0,3,rfl,p7.st,p7.hn,p7.sc,p7.ne,p7.sq,p7.len,p7.hk,p7.k0,by decide,by decide,fun r8 H8 r80 r81 mo8 st8=>?_⟩;have p8:=p7.next mo8 st8;obtain⟨c8,rfl⟩:=Int.eq_ofNat_of_zero_le r80;refine⟨_,_,rfl,rfl,_,rfl,by lia,by lia,fun ro hro=>?_⟩;rw[show (1+((c8:Nat):Int)).toNat=1+c8 by lia];replace e_fo:H8 fo=some (.lst []):=by rw[mo8 fo n_fo];exact e_fo
   replace e_th:H8 th=some (.dT []):=by rw[mo8 th n_th];exact e_th
   replace e_no:H8 no=some (.dT []):=by rw[mo8 no n_no];exact e_no
   replace e_sp:H8 sp=some (DN P w sp []):=by rw[mo8 sp n_sp];exact e_sp
   replace e_se:H8 se=some (DN P w se []):=by rw[mo8 se n_se];exact e_se
   have e_fo8:=e_fo;have al8:KL K a ns∨∃ b,H8 a=some b:=al7.imp_right fun ⟨b,hb⟩=>⟨b,by rw[mo8 a a_s];exact hb⟩;refine b6.by (b4 (n:=1+c8)) (fun j σ Hj=>ak H8 Hj∧(∃ rs:List Addr,Hj ro=some (.lst (rs.map V.ref))∧rs.length=j∧(∀ r∈rs,H8 r=none∧Hj r=some (.lst []))∧ro∉rs)∧∃ y,σ=[y]) ⟨smu hro,⟨[],pG,rfl,by simp,by simp⟩,_,rfl⟩ (fun _ _ _ _ _=>trivial) ?_ ?_
   · rintro j x σ Hj hxj ⟨sj,⟨rs,hj,hl,hrs,hn⟩,y,rfl⟩;have hjc:j<1+c8:=by have:=(gES.mp hxj).1;rw[bm] at this;exact this
     rw[aL,df];refine bx ⟨ef,fun r hr=>?_⟩;have kr:=smu (o:=HO.lst []) hr;have nr:r≠ro:=fun e=>by rw[e,hj] at hr;cases hr
     refine⟨_,kr _ _ hj,by rw[lMp];lia,aG (sj.trans kr) hro,⟨rs++[r],by rw[pG,List.map_append];rfl,by simp[hl],fun z hz=>?_,fun z=>?_⟩,_,rfl⟩
     · rcases mAp.mp hz with hz | hz
       · obtain⟨z1,z2⟩:=hrs z hz;have nz:z≠ro:=fun e=>hn (by rw[← e];exact hz);exact⟨z1,by rw[a9 nz];exact kr _ _ z2⟩
       · rw[mSg.mp hz];exact⟨ak.free sj hr,by rw[a9 nr];exact pG⟩
     · rcases mAp.mp z with z | z
       · exact hn z
       · exact nr (mSg.mp z).symm
   rintro σ H9 ⟨s9,⟨rs,e_ro,hrl,hrs,hrn⟩,y,rfl⟩;rw[bm] at hrl;replace e_fo:=s9 _ _ e_fo;replace e_th:=s9 _ _ e_th;replace e_no:=s9 _ _ e_no;replace e_sp:=s9 _ _ e_sp;replace e_se:=s9 _ _ e_se;have p9:=p8.same s9;have al9:KL K a ns∨∃ b,H9 a=some b:=al8.imp_right fun ⟨b,hb⟩=>⟨b,s9 _ _ hb⟩;have ra:KL K a ns∨a∉rs:=al8.imp_right fun ⟨b,hb⟩ e=>by rw[(hrs a e).1] at hb;cases hb
   have fo_rs:fo∉rs:=fun e=>by
    have z:=(hrs fo e).1;rw[e_fo8] at z;cases z
   obtain⟨H10,dp10,mo10,st10⟩:=p9.st.new "rows" (.ref ro) p9.hn;refine⟨_,rfl,s,H10,rfl,dp10,?_⟩
   with_reducible refine a0 fun Dn A6=>?_
   have ro_s:ro≠s:=fun e=>by
    obtain⟨kvs,h1,_⟩:=p9.st;rw[← e,e_ro] at h1;cases h1
   have rs_s:∀ r∈rs,r≠s:=fun r hr e=>by
    obtain⟨kvs,h1,_⟩:=p9.st;have z:=(hrs r hr).2;rw[e,h1] at z;cases z
   have p10:Pk K H10 s 8 (aJ (aJ m7 "k" (.int (0+1))) "rows" (.ref ro)) a ns (0+1):=⟨st10,by decide,by rw[aj _ _ (by decide +kernel)];exact p9.sc,a_s,SqL.mo p9.sq mo10 a_s,hlen,by rw[aj _ _ (by decide +kernel)];exact p9.hk,by decide⟩;have al10:KL K a ns∨∃ b,H10 a=some b:=al9.imp_right fun ⟨b,hb⟩=>⟨b,by rw[mo10 a a_s];exact hb⟩;have hrs10:∀ r∈rs,H10 r=some (.lst []):=fun r hr=>by rw[mo10 r (rs_s r hr)];exact (hrs r hr).2
   replace e_ro:H10 ro=some (.lst (rs.map V.ref)):=by rw[mo10 ro ro_s];exact e_ro
   replace e_fo:H10 fo=some (.lst []):=by rw[mo10 fo n_fo];exact e_fo
   replace e_th:H10 th=some (.dT []):=by rw[mo10 th n_th];exact e_th
   replace e_no:H10 no=some (.dT []):=by rw[mo10 no n_no];exact e_no
   replace e_sp:H10 sp=some (DN P w sp []):=by rw[mo10 sp n_sp];exact e_sp
   replace e_se:H10 se=some (DN P w se []):=by rw[mo10 se n_se];exact e_se
   refine⟨ee,fun l1 h1=>?_⟩;have k11:=smu (o:=HO.lst [V.str "a",V.str "b",V.str "c"]) h1;have g1:(upd H10 l1 (.lst [V.str "a",V.str "b",V.str "c"])) l1=some (.lst [V.str "a",V.str "b",V.str "c"]):=pG;generalize upd H10 l1 (.lst [V.str "a",V.str "b",V.str "c"])=H11 at k11 g1 ⊢;refine⟨ee,fun l2 h2=>?_⟩;have k12:=smu (o:=HO.lst [V.str "a",V.str "ab",V.str "abc"]) h2;have g2:(upd H11 l2 (.lst [V.str "a",V.str "ab",V.str "abc"])) l2=some (.lst [V.str "a",V.str "ab",V.str "abc"]):=pG;replace g1:=k12 _ _ g1;generalize upd H11 l2 (.lst [V.str "a",V.str "ab",V.str "abc"])=H12 at k12 g1 g2 ⊢;refine⟨ee,fun l3 h3=>?_⟩;have k13:=smu (o:=HO.lst [V.str "f",V.str "thing",V.str "gggggggg"]) h3;have g3:(upd H12 l3 (.lst [V.str "f",V.str "thing",V.str "gggggggg"])) l3=some (.lst [V.str "f",V.str "thing",V.str "gggggggg"]):=pG;replace g1:=k13 _ _ g1;replace g2:=k13 _ _ g2;generalize upd H12 l3 (.lst [V.str "f",V.str "thing",V.str "gggggggg"])=H13 at k13 g1 g2 g3 ⊢;refine⟨ee,fun O hO=>?_⟩;have k14:=smu (o:=HO.lst [V.ref l1,V.ref l2,V.ref l3]) hO;have gO:(upd H13 O (.lst [V.ref l1,V.ref l2,V.ref l3])) O=some (.lst [V.ref l1,V.ref l2,V.ref l3]):=pG;replace g1:=k14 _ _ g1;replace g2:=k14 _ _ g2;replace g3:=k14 _ _ g3;generalize upd H13 O (.lst [V.ref l1,V.ref l2,V.ref l3])=H14 at k14 g1 g2 g3 gO ⊢;have K14:ak H10 H14:=k11.trans (k12.trans (k13.trans k14));have p14:=p10.same K14;refine⟨_,rfl,s,a,8,_,ns,0+1,3,rfl,p14.st,p14.hn,p14.sc,p14.ne,p14.sq,p14.len,p14.hk,p14.k0,by decide,by decide,fun r15 H15 r150 r151 mo15 st15=>?_⟩;have p15:=p14.next mo15 st15;have l_s:∀ {b:Addr} {xs:List V},H14 b=some (.lst xs)→H15 b=some (.lst xs):=fun {b xs} h=>by
    rw[mo15 b fun e=>by obtain⟨kvs,z,_⟩:=p14.st;rw[e,z] at h;cases h];exact h
   obtain⟨j15,rfl⟩:=Int.eq_ofNat_of_zero_le r150;obtain⟨lj,xj,hlj,hxj⟩:∃ l xs,([V.ref l1,V.ref l2,V.ref l3]:List V)[j15]?=some (.ref l)∧H15 l=some (.lst xs):=by
    rcases (show j15=0∨j15=1∨j15=2 by exact AG) with rfl | rfl | rfl
    · exact⟨l1,_,rfl,l_s g1⟩
    · exact⟨l2,_,rfl,l_s g2⟩
    · exact⟨l3,_,rfl,l_s g3⟩
   refine⟨O,_,_,.ref lj,rfl,rfl,SqL.of (l_s gO),pJ hlj,?_⟩;refine A6 _ _ ?_
   with_reducible refine a0 fun Dm A5=>?_
   have g_ro:bR H15 s (.str "rows") (some (.ref ro)):=p15.st.get (by rw[aj _ _ (by decide +kernel),be]);refine⟨_,rfl,_,rfl,s,_,rfl,g_ro,ro,_,rfl,.inl (SqL.of (l_s (K14 _ _ e_ro))),_,rfl,lj,xj,rfl,SqL.of hxj,fun p hp=>?_⟩;have k16:=smu (o:=HO.lst (fi xj none (some (((rs.map V.ref).length:Nat):Int)))) hp;generalize upd H15 p (.lst (fi xj none (some (((rs.map V.ref).length:Nat):Int))))=H16 at k16 ⊢;have p16:=p15.same k16;obtain⟨H17,dp17,mo17,st17⟩:=p16.st.new "names" (.ref p) p16.hn;refine⟨_,rfl,s,H17,rfl,dp17,?_⟩;refine A5 _ _ ?_
   with_reducible refine a0 fun Dl A4=>?_
   have p17:Pk K H17 s 9 (aJ (aJ (aJ (aJ m7 "k" (.int (0+1))) "rows" (.ref ro)) "k" (.int (0+1+1))) "names" (.ref p)) a ns (0+1+1):=⟨st17,by decide,by rw[aj _ _ (by decide +kernel)];exact p16.sc,a_s,SqL.mo p16.sq mo17 a_s,hlen,by rw[aj _ _ (by decide +kernel)];exact p16.hk,by decide⟩;have go:∀ {b:Addr} {o:HO},H10 b=some o→b≠s→H17 b=some o:=fun {b o} h hb=>by
    rw[mo17 b hb];refine k16 _ _ ?_;rw[mo15 b hb];exact K14 _ _ h
   have mg7:∀ {y:Str},y≠"k"→y≠"rows"→y≠"names"→aJ (aJ (aJ (aJ m7 "k" (.int (0+1))) "rows" (.ref ro)) "k" (.int (0+1+1))) "names" (.ref p) y=m7 y:=fun {y} h1 h2 h3=>by
    rw[aj _ _ h3,aj _ _ h1,aj _ _ h2,aj _ _ h1]
   have m_ro:aJ (aJ (aJ (aJ m7 "k" (.int (0+1))) "rows" (.ref ro)) "k" (.int (0+1+1))) "names" (.ref p) "rows"=some (.ref ro):=by
    rw[aj _ _ (by decide +kernel),aj _ _ (by decide +kernel),be]
   have al17:KL K a ns∨∃ b,H17 a=some b:=al10.imp_right fun ⟨b,hb⟩=>⟨b,go hb a_s⟩;have fo_ro:fo≠ro:=fun e=>by
    rw[← e] at hro;rw[e_fo8] at hro;cases hro
   refine⟨_,rfl,s,a,fo,ro,rs,9,_,ns,0+1+1,rfl,p17,al17,fo_a,by decide,by rw[mg7 (by decide +kernel) (by decide +kernel) (by decide +kernel)];exact m_fo,go e_fo n_fo,m_ro,go e_ro ro_s,fo_ro,by lia,fun fl k18 H18 sm hf18 hok hfl c1 c2 p18=>?_⟩;refine A4 _ _ ?_;have rs_fo:∀ r∈rs,r≠fo:=fun r hr e=>fo_rs (e▸hr);have gm:∀ {b:Addr} {o:HO},H10 b=some o→b≠s→b≠fo→H18 b=some o:=fun {b o} h h1 h2=>sm b o h1 h2 (go h h1);have nfo:∀ {b:Addr} {o:HO},H10 b=some o→(∀ xs,o≠.lst xs)→b≠fo:=fun {b o} h hd e=>by rw[e,e_fo] at h;exact hd _ (Option.some.inj h).symm
   have mk:∀ {y:Str},y≠"k"→aJ (aJ (aJ (aJ (aJ m7 "k" (.int (0+1))) "rows" (.ref ro)) "k" (.int (0+1+1))) "names" (.ref p)) "k" (.int k18) y=aJ (aJ (aJ (aJ m7 "k" (.int (0+1))) "rows" (.ref ro)) "k" (.int (0+1+1))) "names" (.ref p) y:=fun {y} h=>aj _ _ h;refine q5 ⟨s,a,ro,rs,th,no,sp,se⟩ fo fl H17 H18 _ ⟨⟨aJ (aJ (aJ (aJ (aJ m7 "k" (.int (0+1))) "rows" (.ref ro)) "k" (.int (0+1+1))) "names" (.ref p)) "k" (.int k18),k18,0,?_,by lia,Nat.zero_le _,?_⟩,⟨hf18,hok.fv,by show fl.length≤1000;exact ix,fo_rs,fun x hx=>⟨fun e=>?_,fun e=>?_⟩,hok.inn⟩⟩ hfl hok
   · exact
     { pk:=p18
       al:=by
         rcases al17 with z | ⟨b,hb⟩
         · exact .inl z
         · by_cases e:a=fo
           · exact .inr ⟨_,by show H18 a=_;rw[e];exact hf18⟩
           · exact .inr ⟨b,sm _ _ a_s e hb⟩
       ro:=by rw[mk (by decide +kernel)];exact m_ro
       rv:=gm e_ro ro_s (Ne.symm fo_ro)
       rw:=fun r hr=>⟨[],gm (hrs10 r hr) (rs_s r hr) (rs_fo r hr),Nat.le_refl _⟩
       rne:=hrn
       ra:=ra
       th:=by rw[mk (by decide +kernel),mg7 (by decide +kernel) (by decide +kernel) (by decide +kernel)];exact m_th
       tv:=⟨[],gm e_th n_th (nfo e_th fun _ z=>nomatch z),Nat.le_refl _⟩
       no:=by rw[mk (by decide +kernel),mg7 (by decide +kernel) (by decide +kernel) (by decide +kernel)];exact m_no
       nv:=⟨[],gm e_no n_no (nfo e_no fun _ z=>nomatch z),Nat.le_refl _⟩
       sp:=by rw[mk (by decide +kernel),mg7 (by decide +kernel) (by decide +kernel) (by decide +kernel)];exact m_sp
       sv:=gm e_sp n_sp (nfo e_sp fun _ z=>nomatch z)
       sa:=fun x hx=>absurd hx nMN
       sl:=Nat.le_refl _
       se:=by rw[mk (by decide +kernel),mg7 (by decide +kernel) (by decide +kernel) (by decide +kernel)];exact m_se
       ev:=⟨[],gm e_se n_se (nfo e_se fun _ z=>nomatch z),fun x hx=>absurd hx nMN,Nat.le_refl _⟩
       ne:=ne_ss }
   · rw[mk (by decide +kernel),mg7 (by decide +kernel) (by decide +kernel) (by decide +kernel)];exact m_fo
   · have z:=(hok.new x hx).1;obtain⟨kvs,h1,_⟩:=p17.st;have e':x.1=s:=e;rw[e',h1] at z;cases z
   · have z:=(hok.new x hx).2;have e':x.2.inner∈rs:=e;rw[go (hrs10 _ e') (rs_s _ e')] at z;cases z
end
end K12
namespace P10
open PySem L2
def Ly (c:Nat) (d:PyData):Prop:=d.canLay0=true∧d.depth≤c
theorem Ly.more {c c':Nat} {d:PyData} (h:Ly c d) (hc:c≤c'):Ly c' d:=⟨h.1,Nat.le_trans h.2 hc⟩
theorem qj {c:Nat}:∀ {ds:PDs},PyData.canLayAll0 ds=true→PyData.depthAll ds≤c→∀ x∈ds,Ly c x:=by
 intro ds
 induction ds with
 | nil=>exact fun _ _ x hx=>absurd hx nMN
 | cons d r ih =>
  intro h1 h2 x hx;have h1':(d.canLay0&&PyData.canLayAll0 r)=true:=h1;rw[Bool.and_eq_true] at h1';have h2':max d.depth (PyData.depthAll r)≤c:=h2
  rcases List.mem_cons.mp hx with rfl | hx
  · exact⟨h1'.1,by lia⟩
  · exact ih h1'.2 (by lia) x hx
theorem we {c:Nat} {ds:PDs} (h:∀ x∈ds,Ly c x):Ly (c+1) (.tuple ds):=⟨eB fun x hx=>(h x hx).1,eE fun x hx=>(h x hx).2⟩
theorem ij {c:Nat} {ds:PDs} (h:Ly (c+1) (.tuple ds)):∀ x∈ds,Ly c x:=by
 obtain⟨h1,h2⟩:=h;have h2':PyData.depthAll ds+1≤c+1:=h2;exact qj h1 (by lia)
theorem lF {c:Nat} {ds:PDs} (h:Ly c (.tuple ds)):∃ c',c=c'+1:=by
 have h2:PyData.depthAll ds+1≤c:=h.2;exact⟨c-1,by lia⟩
theorem sN {c:Nat}:∀ {sl:List Str} {ps:PDs},(∀ p∈ps,Ly c p)→∀ x∈aD sl ps,Ly c x:=by
 intro sl
 induction sl with
 | nil=>exact fun {ps} _ x hx=>absurd hx nMN
 | cons s sl ih =>
  intro ps h x hx;cases ps with
  | nil=>exact absurd hx nMN
  | cons p ps =>
   have hx':x∈ba s p++aD sl ps:=hx
   rcases mAp.mp hx' with hx | hx
   · have hp:=h p mCS;unfold ba at hx;split at hx
     · rw[mSg.mp hx];exact hp
     · split at hx
       · cases p with
         | tuple l =>
          obtain⟨c',rfl⟩:=lF hp;exact (ij hp x hx).more (Nat.le_succ _)
         | none=>exact absurd hx nMN
         | bool b=>exact absurd hx nMN
         | int i=>exact absurd hx nMN
         | str z=>exact absurd hx nMN
         | list l=>exact absurd hx nMN
         | dict l=>exact absurd hx nMN
       · exact absurd hx nMN
   · exact ih (fun q hq=>h q (mCM _ hq)) x hx
theorem Nd.ly {d:PyData} {h:Str} {sl:List Str} {ps:PDs} {c:Nat} (n:Nd d h sl ps) (l:Ly c d):∀ x∈aD sl ps,Ly c x:=by
 rw[n.eq] at l;obtain⟨c',rfl⟩:=lF l;exact fun x hx=>((sN (sl:=sl) fun p hp=>ij l p (mCM _ hp)) x hx).more (Nat.le_succ _)
theorem OkE.ly {B:List Int} {n:Nat} {d:PyData} (h:OkE B n d):Ly (2*n) d:=⟨h.lay,h.dep⟩
theorem Ly.shaped {c:Nat} {d:PyData} (h:Ly c d) (hc:c≤64):SeqAt.shaped d=true:=by
 unfold SeqAt.shaped;rw[h.1,decide_eq_true (Nat.le_trans h.2 hc)];rfl
def prt (f:PyData→PyData) (s:Str) (p:PyData):PyData:=if s="one" then f p else if s="many" then .tuple ((aA p).map f) else p
theorem nh {f:PyData→PyData}:∀ {sl:List Str} {ps:PDs} (pre post:PDs),cH (pre++((aD sl ps).map f++post)) sl ps pre.length=List.zipWith (prt f) sl ps:=by
 intro sl
 induction sl with
 | nil=>intro ps pre post;cases ps <;> rfl
 | cons s sl ih =>
  intro ps pre post;cases ps with
  | nil=>rfl
  | cons p ps =>
   rw[bE,List.map_append,List.append_assoc];have h:=ih (ps:=ps) (pre++(ba s p).map f) post;rw[List.append_assoc,lAp,lMp] at h;show eI s p _ pre.length::cH _ sl ps (pre.length+(ba s p).length)=prt f s p::List.zipWith (prt f) sl ps;rw[h];congr 1;unfold eI prt;by_cases h1:s="one"
   · subst h1;rw[if_pos rfl,if_pos rfl,mI];simp
   · rw[if_neg h1,if_neg h1];by_cases h2:s="many"
     · subst h2;rw[if_pos rfl,if_pos rfl,List.drop_left];have e:ba "many" p=aA p:=by unfold ba;rw[if_neg h1,if_pos rfl]
       rw[e,List.take_left' (by rw[lMp])]
     · rw[if_neg h2,if_neg h2]
theorem gD {bs:PDs} {g:Int→Int}:∀ {sl:List Str} {ps:PDs},sl.length=ps.length→(∀ s∈sl,s≠"bound"∧s≠"bounds"∧s≠"meant")→cu bs g sl ps=ps:=by
 intro sl
 induction sl with
 | nil=>intro ps hl _;cases ps with | nil=>rfl | cons=>cases hl
 | cons s sl ih =>
  intro ps hl h;cases ps with
  | nil=>cases hl
  | cons p ps =>
   show bA bs g s p::cu bs g sl ps=_;obtain⟨h1,h2,h3⟩:=h s mCS;rw[ih (Nat.succ.inj hl) fun s hs=>h s (mCM _ hs)];unfold bA;rw[if_neg h1,if_neg h2,if_neg h3]
theorem dB {g:Int→Int} {n:Nat} {d:PyData} {h:Str} {sl:List Str} {ps:PDs} (nd:Nd d h sl ps):b7 (aY g) (n+1) d=.tuple (.str h::List.zipWith (prt (b7 (aY g) n)) sl (cu ((bi h ps).map (cI g)) g sl ps)):=by
 show gJ ((ao d).map (b7 (aY g) n)) (aY g d)=_;obtain⟨_,nd'⟩:=nd.turn g;rw[nd'.put];congr 2;have e:(ao d).map (b7 (aY g) n)=[]++((aD sl (cu ((bi h ps).map (cI g)) g sl ps)).map (b7 (aY g) n)++[]):=by
  rw[fP,nd.kids,List.append_nil,List.nil_append]
 rw[e];exact nh [] []
def w5:List Str:=["name","set","let","var","each"]
theorem w5S {h:Str} {sl:List Str} (m:(h,sl)∈tbl) (e:bb h w5=true):sl=(["meant"]:List Str)∨sl=(["meant","one"]:List Str)∨(sl=(["bound","one","one"]:List Str)∧bb h w2=true):=by
 have:∀ p∈tbl,bb p.1 w5=true→p.2=(["meant"]:List Str)∨p.2=(["meant","one"]:List Str)∨(p.2=(["bound","one","one"]:List Str)∧bb p.1 w2=true):=by decide +kernel
 exact this _ m e
theorem mE {h:Str} {sl:List Str} (m:(h,sl)∈tbl) (e:bb h w5=false) (hf:h≠"fun"):∀ s∈sl,s≠"bound"∧s≠"bounds"∧s≠"meant":=by
 have:∀ p∈tbl,bb p.1 w5=false→p.1≠"fun"→∀ s∈p.2,s≠"bound"∧s≠"bounds"∧s≠"meant":=by decide +kernel
 exact this _ m e hf
theorem qa (f:PyData→PyData) (p:PyData):prt f "one" p=f p:=by unfold prt;rw[if_pos rfl]
theorem dg {s:Str} (h1:s≠"one") (h2:s≠"many") (f:PyData→PyData) (p:PyData):prt f s p=p:=by unfold prt;rw[if_neg h1,if_neg h2]
theorem d8 (bs:PDs) (g:Int→Int) (p:PyData):bA bs g "one" p=p:=by unfold bA;rw[if_neg (by decide +kernel),if_neg (by decide +kernel),if_neg (by decide +kernel)]
theorem d9 (bs:PDs) (g:Int→Int) (i:Int):bA bs g "meant" (.int i)=.int (g i):=by unfold bA;rw[if_neg (by decide +kernel),if_neg (by decide +kernel),if_pos rfl];rfl
theorem rG {g:Int→Int} {n:Nat} {d:PyData} {h:Str} {sl:List Str} {ps:PDs} (nd:Nd d h sl ps) (e:bb h w5=true):∃ (i:Int) (ks:PDs),ps=.int i::ks∧ks.length≤2∧(∀ x∈ks,x∈aD sl ps)∧b7 (aY g) (n+1) d=.tuple ([.str h,.int (g i)]++ks.map (b7 (aY g) n)):=by
 rw[dB nd];obtain⟨_,hm,hshp,_⟩:=nd
 rcases w5S hm e with rfl | rfl | ⟨rfl,ew⟩
 · obtain⟨p0,rfl,s0⟩:=K12.eA hshp;obtain⟨i,rfl⟩:=s0.2.1 (by decide +kernel);refine⟨i,[],rfl,by decide,fun x hx=>absurd hx nMN,?_⟩;show PyData.tuple (.str h::[prt _ "meant" (bA _ g "meant" (.int i))])=_;rw[d9,dg (by decide +kernel) (by decide +kernel)];rfl
 · obtain⟨p0,p1,rfl,s0,_⟩:=K12.cb hshp;obtain⟨i,rfl⟩:=s0.2.1 (by decide +kernel);refine⟨i,[p1],rfl,by show 1≤2;decide,fun x hx=>hx,?_⟩;show PyData.tuple (.str h::[prt _ "meant" (bA _ g "meant" (.int i)),prt _ "one" (bA _ g "one" p1)])=_;rw[d9,dg (by decide +kernel) (by decide +kernel),d8,qa];rfl
 · obtain⟨p0,p1,p2,rfl,s0,_,_⟩:=K12.eu hshp;obtain⟨i,rfl⟩:=s0.2.1 (by decide +kernel);refine⟨i,[p1,p2],rfl,by show 2≤2;decide,fun x hx=>hx,?_⟩;have eb:bi h [.int i,p1,p2]=[.int i]:=by unfold bi;rw[if_pos ew];rfl
   rw[eb];show PyData.tuple (.str h::[prt _ "bound" (bA [.int (g i)] g "bound" (.int i)),prt _ "one" (bA _ g "one" p1),prt _ "one" (bA _ g "one" p2)])=_;have e0:bA [.int (g i)] g "bound" (.int i)=.int (g i):=by unfold bA;rw[if_pos rfl];rfl
   rw[e0,dg (by decide +kernel) (by decide +kernel),d8,qa,d8,qa];rfl
theorem oO {g:Int→Int} {n:Nat} {d:PyData} {sl:List Str} {ps:PDs} (nd:Nd d "fun" sl ps):∃ (is:List Int) (b:PyData),ps=[.tuple (is.map .int),b]∧is.length≤3∧b∈aD sl ps∧b7 (aY g) (n+1) d=.tuple [.str "fun",.tuple (is.map (cI g∘PyData.int)),b7 (aY g) n b]:=by
 rw[dB nd];obtain⟨_,hm,hshp,_⟩:=nd;obtain rfl:=lL hm;obtain⟨p0,p1,rfl,s0,_⟩:=K12.cb hshp;obtain⟨is,rfl,hl⟩:=s0.2.2.2 rfl;refine⟨is,p1,rfl,hl,mCS,?_⟩;have eb:bi "fun" [.tuple (is.map .int),p1]=is.map .int:=by unfold bi;rw[if_neg (by decide +kernel),if_pos rfl];rfl
 rw[eb,List.map_map];show PyData.tuple (.str "fun"::[prt _ "bounds" (bA (is.map (cI g∘PyData.int)) g "bounds" (.tuple (is.map .int))),prt _ "one" (bA _ g "one" p1)])=_;have e0:bA (is.map (cI g∘PyData.int)) g "bounds" (.tuple (is.map .int))=.tuple (is.map (cI g∘PyData.int)):=by unfold bA;rw[if_neg (by decide +kernel),if_pos rfl]
 rw[e0,dg (by decide +kernel) (by decide +kernel),d8,qa]
theorem nB {g:Int→Int} {n:Nat} {d:PyData} {h:Str} {sl:List Str} {ps:PDs} (nd:Nd d h sl ps) (e:bb h w5=false) (hf:h≠"fun"):b7 (aY g) (n+1) d=.tuple (.str h::List.zipWith (prt (b7 (aY g) n)) sl ps):=by
 rw[dB nd,gD (Paired.length nd.shp) (mE nd.mem e hf)]
inductive OkT (g:Int→Int) (k:Nat) (d r:PyData):Prop
  | int (i:Int) (h:1≤k) (e:d=.int i) (er:r=d)
  | str (x:Str) (h:1≤k) (e:d=.str x) (er:r=d)
  | ex (n:Nat) (h:2*n+1≤k) (wf:WFd n d) (ly:Ly 60 d) (er:r=b7 (aY g) n d)
  | many (n:Nat) (ks:PDs) (h:2*n+2≤k) (e:d=.tuple ks) (wf:∀ x∈ks,WFd n x) (ly:∀ x∈ks,Ly 60 x) (hl:ks.length≤8) (er:r=.tuple (ks.map (b7 (aY g) n)))
end P10
namespace K12
open PySem L2 P10
section
variable {P:Program} {w:World} {K:Fg} {mg:SOV} {base:Heap}
abbrev sLt:Stmt:=top 39
abbrev nLt:List Str:=["_law_thing","_law_ids","_law_rest"]
inductive uB (K:Fg) (k:Nat) (vs:List V) (H:Hp) (Q:VK):Prop
  | mk (v:V) (m:Addr) (d r:PyData) (kvs:List (Key×V)) (g0_:vs=[v,.ref m]) (g1_:TD K H v d) (g2_:H m=some (.dK kvs)) (g3_:iK kvs) (g4_:OkT (gK kvs) k d r) (g5_:∀ v' H',ak H H'→TD K H' v' r→Q v' H'):uB K k vs H Q
def ka (K:Fg) (k:Nat):Sp:=fun vs H Q _=>uB K k vs H Q
theorem vx:aB nLt ["_law_thing","_law_ids"] (a7 sLt):=fsM
theorem zN:(["_law_part","_law_ids"]:List Str).Nodup:=by decide +kernel
theorem BG:(["_law_one","_law_ids"]:List Str).Nodup:=by decide +kernel
theorem vO {α β:Type} {F:α→β→Prop} {l1:List α} {l2:List β} (h:Paired F l1 l2):∀ {i:Nat} {a:α} {b:β},l1[i]?=some a→l2[i]?=some b→F a b:=by
 induction h with
 | nil=>intro i a b h1;cases h1
 | cons r _ ih =>
  intro i a b h1 h2;cases i with
  | zero=>cases h1;cases h2;exact r
  | succ i=>exact ih h1 h2
theorem gg {J:It} {xs:List V} {Ok:Hp→Prop} (y:di J xs Ok) {k:Nat} {m L:Addr} {kvs:List (Key×V)} {ds rs:PDs} {Q:VK} {H1:Hp} {x0:Option V} (txs:TDs K H1 xs ds) (pd:Paired (OkT (gK kvs) k) ds rs) (hz:xs.length≤1000) (hL:H1 L=none) (hm:H1 m=some (.dK kvs)) (hint:iK kvs) (hOk:∀ H,ak H1 H→Ok H)
 (hQ:∀ (H:Hp) (ys:List V),ak H1 H→H L=some (.lst ys)→TDs K H ys rs→Q (.ref L) H):b6 J (eT 0) nC (gP (ka K k) [] E0 (cP (cq 0) (cP (cq 1) iC))) Q [x0,some (.ref m)] H1 L:=by
 refine b6.dat (K:=K) (n:=1) y (ds:=rs) (txs.length.trans (Paired.length pd)) hz hL hOk ?_ hQ;intro i x dr σ Hi R T hx hdr sm e1 e2 hR;obtain⟨y0,rfl⟩:∃ y0,σ=[y0,some (.ref m)]:=by
  cases σ with
  | nil=>cases e2
  | cons y0 r =>
   have e1':r=[some (.ref m)]:=e1;exact⟨y0,by rw[e1']⟩
 obtain⟨dx,hdx,tdx⟩:=txs.get hx;rw[aL,df];exact bx ⟨_,rfl,_,rfl,x,m,dx,dr,kvs,rfl,tdx.same sm,sm _ _ hm,hint,vO pd hdx hdr,fun v' H' s' t'=>hR v' _ H' s' t' rfl rfl⟩
theorem zp {k:Nat} (D:Def K mg "_law_turned" sLt) (T:Blt mg) (kd:mW K) (ce:Fn P w K mg base "_law_turned" (k+1) ["_law_thing","_law_ids"] (ka K k)):Fn P w K mg base "_law_turned" (k+2) ["_law_thing","_law_ids"] (ka K (k+1)):=by
 refine D.fn vx (fun vs H Q E h=>?_) (fun _ _ _ _ _ _ us hl=>by obtain⟨a,b,rfl⟩:=il hl;rfl) (fun f cdv A outer s' H vs Q E hr h=>?_)
 · obtain⟨v,m,d,r,kvs,rfl,_⟩:=h;rfl
 · obtain⟨v,m,d,r,kvs,rfl,td,hm,hint,hok,q⟩:=h;have nd:=vx.nd;have hu:=bX hr;have hu64:(A.deeper (PyProof.Rows.envOfC "_law_turned" (a7 sLt) s'.heap.objs.size f cdv)).units+64<cLine:=by have:=hr.units65;omega
   have hz0:(1000000:Nat)<sizeLine:=by decide
   refine⟨_,(pE (aN (gZ (cV (gk T.isinstance (pA (pv 0) (pA (eo (v:=.ty "tuple") rfl T.tuple cw rfl) pC))))) (pI (az (pv 0))) aE)
 (pE (aN (PW.pt (b8 (pO iW (bc T.len (pA (pv 0) pC)) pH (pP _)) (b8 (cV (gk T.isinstance (pA (aq aF (pv 0) pH (fun _ _=>rfl)) (pA (eo (v:=.ty "str") rfl T.str gh rfl) pC)))) (bn (pO cA (aq aF (pv 0) pH (fun _ _=>rfl)) (au (pA pD (pA pD (pA pD (pA pD (pA pD pC)))))) (by with_unfolding_all rfl)))))) (pE (pN (i:=2) nd rfl (Or.inl rfl) (cg T.tuple (pA (dU (own:=["_law_part"]) (outs:=[(1,"_law_ids")]) (te:=gP (ka K k) [] E0 (cP (cq 0) (cP (cq 1) iC))) rfl (aI.of (a7 sLt) nLt) (eZ (cs eY (pv 0) (bH pH) cQ)) (fun _ _ _ _=>⟨(ae (i:=0) zN rfl (Or.inl rfl)),bL,(aa ce hr rfl (pA (pv 0) (pA (pv 1) pC)))⟩)) pC)))
 (pI (az (aC cR (au (pA (aq aF (pv 0) pH (fun _ _=>rfl)) (pA (dv hu (pv 1) (aq aF (pv 0) pH (fun _ _=>rfl)) (aq aF (pv 0) pH (fun _ _=>rfl)) ⟨rfl,rfl,rfl,rfl⟩) pC))) (pv 2))))) aE)
 (pE (aN (PW.pt (b8 (pO iW (bc T.len (pA (pv 0) pC)) pH (pP _)) (bn (pO (vQ hu64) (aq aF (pv 0) pH (fun _ _=>rfl)) pD (pP _))))) (pI (az (au (pA pD (pA (cg T.tuple (pA (dU (own:=["_law_one"]) (outs:=[(1,"_law_ids")]) rfl (aI.of (a7 sLt) nLt) (eZ (aq aF (pv 0) pH (fun _ _=>rfl))) (fun _ _ _ _=>⟨(ae (i:=0) BG rfl (Or.inl rfl)),bL,(dv hu (pv 1) (pv 0) (pv 0) ⟨rfl,rfl,rfl,rfl⟩)⟩)) pC)) (pA (aa ce hr rfl (pA (aq aF (pv 0) pH (fun _ _=>rfl)) (pA (pv 1) pC))) pC)))))) aE)
 (pI (az (cg T.tuple (pA (dU (own:=["_law_part"]) (outs:=[(1,"_law_ids")]) (te:=gP (ka K k) [] E0 (cP (cq 0) (cP (cq 1) iC))) rfl (aI.of (a7 sLt) nLt) (eZ (pv 0)) (fun _ _ _ _=>⟨(ae (i:=0) zN rfl (Or.inl rfl)),bL,(aa ce hr rfl (pA (pv 0) (pA (pv 1) pC)))⟩)) pC))))))),?_⟩
   dsimp only[bJ,bN,bM];have at0:∀ {x:V} {r:List V},atI (x::r) 0=some x:=fun {x r}=>pJ (j:=0) rfl;have at1:∀ {x y:V} {r:List V},atI (x::y::r) 1=some y:=fun {x y r}=>pJ (j:=1) rfl;have at2:∀ {x y z:V} {r:List V},atI (x::y::z::r) 2=some z:=fun {x y z r}=>pJ (j:=2) rfl;refine a0 fun rD iB=>?_;cases hok with
   | int i h e er =>
    subst e er;obtain rfl:=td.int_of;exact⟨_,rfl,_,"int","tuple",false,rfl,.int i,kd.it,false,rfl,bx ⟨_,rfl,q _ _ (ak.refl _) td⟩⟩
   | str x h e er =>
    subst e er;obtain rfl:=td.str_of;exact⟨_,rfl,_,"str","tuple",false,rfl,.str x,kd.st,false,rfl,bx ⟨_,rfl,q _ _ (ak.refl _) td⟩⟩
   | many n ks h e wf ly hl er =>
    subst e er;obtain⟨a,xs,rfl,ha,hx⟩:=td.tup_of;have hxl:=hx.length;refine⟨_,rfl,_,"tuple","tuple",true,rfl,.tup ha,cM,true,rfl,aZ (iB _ _ (a0 fun mF iq=>?_))⟩;have pd:Paired (OkT (gK kvs) k) ks (ks.map (b7 (aY (gK kvs)) n)):=by
     clear td hx hxl hl q
     induction ks with
     | nil=>exact .nil
     | cons c r ih=>exact .cons (.ex n (by omega) (wf c mCS) (ly c mCS) rfl) (ih (fun x hx=>wf x (mCM _ hx)) fun x hx=>ly x (mCM _ hx))
    have two:mF [some (.ref a),some (.ref m),none] H:=by
     refine iq _ _ (a0 fun sI kK=>?_);have fin:sI [some (.ref a),some (.ref m),none] H:=by
      refine kK _ _ ?_;rw[gX,iS,cD,cj];refine⟨_,rfl,a,rfl,⟨_,ha⟩,fun U hU=>?_⟩;refine gg (bT (xs:=xs)) hx pd (by omega) hU hm hint (fun Hj sj=>sj.seqT ha) fun Hj ys sj hUj hys=>?_;refine⟨U,ys,rfl,.inl ⟨SqL.of hUj,fun F hF=>?_⟩⟩;have k5:=smu (o:=HO.tup ys) hF;exact q _ _ (sj.trans k5) (.tup (SqT.of pG) (hys.same k5))
     refine⟨_,rfl,a,_,rfl,.inr ha,_,_,rfl,rfl,_,rfl,?_⟩;by_cases hlen:1<ks.length
     · refine pL (by simp;omega) ?_;cases hx with
       | nil=>exact absurd hlen (by decide)
       | @cons x0 d0 xr dr e0 er =>
        have l0:=ly d0 mCS;obtain⟨hd0,r0,ed0⟩:=(wf d0 mCS).form;refine⟨_,rfl,a,_,0,_,rfl,rfl,ha,at0,d0,.str "fun",e0.dat,.str _,l0.shaped (by decide),by decide +kernel,_,rfl,?_⟩;rw[ed0,show PyData.eqv (.tuple (.str hd0::r0)) (.str "fun")=false by simp[PyData.eqv]];exact aZ fin
     · refine pK (by simp;omega) (aZ fin)
    refine⟨_,rfl,a,_,rfl,.inr ha,_,_,rfl,rfl,_,rfl,?_⟩;by_cases hlen:1<ks.length
    · refine pL (by simp;omega) ?_;cases hx with
      | nil=>exact absurd hlen (by decide)
      | @cons x0 d0 xr dr e0 er =>
       obtain⟨hd0,r0,ed0⟩:=(wf d0 mCS).form;rw[ed0] at e0;obtain⟨c0,z0,rfl,hc0,_⟩:=e0.tup_of;exact⟨_,rfl,a,_,0,_,rfl,rfl,ha,at0,_,"tuple","str",false,rfl,.tup hc0,kd.ts,false,rfl,aZ (aZ two)⟩
    · exact pK (by simp;omega) (aZ two)
   | ex n h wf ly er =>
    cases n with
    | zero=>exact wf.elim
    | succ n =>
    have wf0:=wf;obtain⟨hd,sl,ps,nde,hkid⟩:=wf;have lyk:=nde.ly ly;have nde0:=nde;obtain⟨ed,hmt,hshp,hfew⟩:=nde0;obtain⟨a,xs,rfl,ha,hx⟩:=(show TD K H v (.tuple (.str hd::ps)) from ed▸td).tup_of;obtain⟨x0,xr,rfl,hx0,hxr⟩:∃ x0 xr,xs=x0::xr∧TD K H x0 (.str hd)∧TDs K H xr ps:=by
     cases hx with
     | cons p q=>exact⟨_,_,rfl,p,q⟩
    obtain rfl:=hx0.str_of;have hfl:=Paired.length hshp;have tl:=fH hmt;have tpos:1≤sl.length:=by
     have:∀ p∈tbl,1≤p.2.length:=by decide +kernel
     exact this _ hmt
    have hxl:=hxr.length;have slay:(PyData.str hd).canLay0=true:=by
     rw[ed] at ly;obtain⟨c',e⟩:=lF ly;rw[e] at ly;exact (ij ly _ mCS).1
    refine⟨_,rfl,_,"tuple","tuple",true,rfl,.tup ha,cM,true,rfl,aZ (iB _ _ (a0 fun mF iq=>?_))⟩;refine⟨_,rfl,a,_,rfl,.inr ha,_,_,rfl,rfl,_,rfl,pL (by simp;omega) ⟨_,rfl,a,_,0,_,rfl,rfl,ha,at0,_,"str","str",true,rfl,.str hd,cM,true,rfl,bx ⟨_,rfl,a,_,0,_,rfl,rfl,ha,at0,Be,fun t1 ht1=>?_⟩⟩⟩;have k1:=smu (o:=HO.tup (w5.map V.str)) ht1;refine⟨t1,w5.map V.str,rfl,.inr (SqT.of pG),rfl,cB _,_,rfl,?_⟩;rw[e8];have g1:upd H t1 (.tup [V.str "name",V.str "set",V.str "let",V.str "var",V.str "each"])=upd H t1 (.tup (w5.map V.str)):=rfl;rw[g1];generalize upd H t1 (.tup (w5.map V.str))=H1 at k1 ⊢;have ha1:=k1.seqT ha;have hm1:=k1 _ _ hm;have hxr1:=hxr.same k1;cases b1:bb hd w5 with
    | true =>
     obtain⟨i,ks,rfl,hks,hkk,et⟩:=rG (g:=gK kvs) (n:=n) nde b1;rw[et] at er;obtain⟨y0,yr,rfl,e0,hyr⟩:∃ y0 yr,xr=y0::yr∧TD K H1 y0 (.int i)∧TDs K H1 yr ks:=by
      cases hxr1 with
      | cons p q=>exact⟨_,_,rfl,p,q⟩
     obtain rfl:=e0.int_of;have hyl:=hyr.length;refine bx (a0 fun sI kK=>?_);rw[cz,iS,cD,cj];refine⟨_,rfl,_,rfl,a,_,rfl,ha1,?_,fun p2 hp2=>?_⟩
     · unfold HT.sIx;simp
     · rw[show (some (2:Int))=some (((2:Nat):Nat):Int) from rfl,cK];have k2:=smu (o:=HO.tup ((V.str hd::V.int i::yr).drop 2)) hp2;have hp2':(upd H1 p2 (.tup ((V.str hd::V.int i::yr).drop 2))) p2=some (.tup yr):=pG;generalize upd H1 p2 (.tup ((V.str hd::V.int i::yr).drop 2))=H2 at k2 hp2' ⊢;refine⟨p2,rfl,⟨_,SqT.of hp2'⟩,fun U hU=>?_⟩;have pd:Paired (OkT (gK kvs) k) ks (ks.map (b7 (aY (gK kvs)) n)):=by
        have:∀ l:PDs,(∀ x∈l,x∈aD sl (.int i::ks))→Paired (OkT (gK kvs) k) l (l.map (b7 (aY (gK kvs)) n)):=by
         intro l
         induction l with
         | nil=>exact fun _=>.nil
         | cons c r ih=>exact fun hl=>.cons (.ex n (by omega) (hkid c (hl c mCS)) (lyk c (hl c mCS)) rfl) (ih fun x hx=>hl x (mCM _ hx))
        exact this ks hkk
       refine gg (bT (xs:=yr)) (hyr.same k2) pd (by omega) hU (k2 _ _ hm1) hint (fun Hj sj=>SqT.of (sj _ _ hp2')) fun Hj ys sj hUj hys=>?_;refine⟨U,ys,rfl,.inl ⟨SqL.of hUj,fun F hF=>?_⟩⟩;have k5:=smu (o:=HO.tup ys) hF;have t5:TD K (upd Hj F (.tup ys)) (.ref F) (.tuple (ks.map (b7 (aY (gK kvs)) n))):=.tup (SqT.of pG) (hys.same k5);refine kK _ _ ?_;generalize upd Hj F (.tup ys)=H5 at k5 t5 ⊢;have K5:=k2.trans (sj.trans k5);have ha5:=K5.seqT ha1;have hm5:=K5 _ _ hm1;refine⟨_,rfl,a,_,0,_,rfl,rfl,ha5,at0,_,rfl,m,rfl,.inl ⟨kvs,.inl hm5⟩,_,rfl,a,_,1,_,rfl,rfl,ha5,at1,_,rfl,a,_,1,_,rfl,rfl,ha5,at1,_,bR.k (k:=.inl i) hm5,gu,fun u hu'=>?_⟩;have k6:=smu (o:=HO.tup [V.str hd,V.int (gK kvs i)]) hu';rw[gc hint];have t6:TD K (upd H5 u (.tup [V.str hd,V.int (gK kvs i)])) (.ref u) (.tuple [.str hd,.int (gK kvs i)]):=.tup (SqT.of pG) (.cons (.str _) (.cons (.int _) .nil));generalize upd H5 u (.tup [V.str hd,V.int (gK kvs i)])=H6 at k6 t6 ⊢;refine⟨_,rfl,dH t6 (t5.same k6) (by rw[lMp];show 2+ks.length≤100000;omega) fun p7 H7 k7 t7=>?_⟩;rw[er] at q;exact q _ _ (k1.trans (K5.trans (k6.trans k7))) t7
    | false =>
     refine aZ (iq _ _ (a0 fun sI kK=>?_));refine⟨_,rfl,a,_,rfl,.inr ha1,_,_,rfl,rfl,_,rfl,pL (by simp;omega) ⟨_,rfl,a,_,0,_,rfl,rfl,ha1,at0,.str hd,.str "fun",.str _,.str _,(show Ly 60 (.str hd) from ⟨slay,Nat.zero_le _⟩).shaped (by decide),by decide +kernel,_,rfl,?_⟩⟩;have eqs:PyData.eqv (.str hd) (.str "fun")=decide (hd="fun"):=by
      show (hd==("fun":Str))=_;by_cases c:hd="fun"
      · rw[c];simp
      · rw[decide_eq_false c];exact beq_false_of_ne c
     rw[eqs];by_cases b2:hd="fun"
     · subst b2;refine pL (by simp) ?_;obtain⟨is,b,rfl,hisl,hbk,et⟩:=oO (g:=gK kvs) (n:=n) nde;rw[et] at er;obtain⟨y0,y1,rfl,e0,e1⟩:=ln hxr1;obtain⟨c,ws,rfl,hc,hws⟩:=e0.tup_of;obtain rfl:=gN hws;rw[gX,pQ,cD,yE,cD,iS,cD,cj];refine⟨_,rfl,a,_,1,_,rfl,rfl,ha1,at1,c,rfl,⟨_,hc⟩,fun U hU=>?_⟩;refine b6.by (bT (xs:=is.map V.int)) (fun j σ Hj=>ak H1 Hj∧Hj U=some (.lst ((is.take j).map fun i=>V.int (gK kvs i)))∧∃ y,σ=[y,some (.ref m)]) ⟨smu hU,pG,_,rfl⟩ (fun j σ Hj _ z=>z.1.seqT hc) ?_ ?_
       · rintro j u σ Hj huj ⟨sj,hUj,y',rfl⟩;rw[gEM] at huj;obtain⟨i',hi',rfl⟩:=oMS.mp huj;rw[aL,df];have hmj:=sj _ _ hm1;refine bx ⟨_,rfl,m,rfl,.inl ⟨kvs,.inl hmj⟩,_,rfl,_,rfl,_,bR.k (k:=.inl i') hmj,_,hUj,by rw[lMp,lTk];omega,aG sj hU,?_,_,rfl⟩;rw[pG,tAO,hi',gc hint];simp
       · rintro σ Hj ⟨sj,hUj,y',rfl⟩;rw[lMp,List.take_length] at hUj;refine⟨U,_,rfl,.inl ⟨SqL.of hUj,fun F hF=>?_⟩⟩;have k5:=smu (o:=HO.tup (is.map fun i=>V.int (gK kvs i))) hF;have t5:TD K (upd Hj F (.tup (is.map fun i=>V.int (gK kvs i)))) (.ref F) (.tuple (is.map (cI (gK kvs)∘PyData.int))):=.tup (SqT.of pG) (oP is);generalize upd Hj F (.tup (is.map fun i=>V.int (gK kvs i)))=H5 at k5 t5 ⊢;have K5:=sj.trans k5;refine⟨_,rfl,a,_,2,_,rfl,rfl,K5.seqT ha1,at2,_,rfl,y1,m,b,_,kvs,rfl,e1.same K5,K5 _ _ hm1,hint,.ex n (by omega) (hkid b hbk) (lyk b hbk) rfl,fun v6 H6 k6 t6=>?_⟩;refine⟨ee,fun u hu'=>?_⟩;have k7:=smu (o:=HO.tup [V.str "fun",V.ref F,v6]) hu';rw[er] at q;exact q _ _ (k1.trans (K5.trans (k6.trans k7))) (.tup (SqT.of pG) (.cons (.str _) (.cons ((t5.same k6).same k7) (.cons (t6.same k7) .nil))))
     · refine pK (by simpa using b2) ?_;rw[nB (g:=gK kvs) (n:=n) nde b1 b2] at er;refine kK _ _ ?_;rw[gX,iS,cD,cj];refine⟨_,rfl,a,rfl,⟨_,ha1⟩,fun U hU=>?_⟩;have pd:Paired (OkT (gK kvs) k) (.str hd::ps) (.str hd::List.zipWith (prt (b7 (aY (gK kvs)) n)) sl ps):=by
        refine .cons (.str hd (by omega) rfl rfl) ?_;have gen:∀ (sl':List Str) (ps':PDs),Paired Shp sl' ps'→(∀ s∈sl',s∈sl)→(∀ x∈aD sl' ps',x∈aD sl ps)→(aD sl' ps').length≤8→Paired (OkT (gK kvs) k) ps' (List.zipWith (prt (b7 (aY (gK kvs)) n)) sl' ps'):=by
         intro sl' ps' hp
         induction hp with
         | nil=>exact fun _ _ _=>.nil
         | @cons s p sl' ps' hs _ ih =>
          intro h1 h2 h3;rw[bE,lAp] at h3;rw[bE] at h2;refine .cons ?_ (ih (fun s hs=>h1 s (mCM _ hs)) (fun x hx=>h2 x (List.mem_append_right _ hx)) (by omega));have hk:∀ x∈ba s p,WFd n x:=fun x hx=>hkid x (h2 x (List.mem_append_left _ hx));have hL:∀ x∈ba s p,Ly 60 x:=fun x hx=>lyk x (h2 x (List.mem_append_left _ hx));obtain⟨m1,m2,m3⟩:=mE hmt b1 b2 s (h1 s mCS)
          rcases tV hmt (h1 s mCS) with rfl | rfl | z | z | z
          · rw[qa];exact .ex n (by omega) (hk p (by rw[mI];exact mSg.mpr rfl)) (hL p (by rw[mI];exact mSg.mpr rfl)) rfl
          · obtain⟨l,rfl⟩:=hs.1 rfl;have ek:ba "many" (.tuple l)=l:=rfl;rw[ek] at hk hL h3;refine .many n l (by omega) rfl hk hL (by omega) rfl
          · obtain⟨i,rfl⟩:=hs.2.1 z;exact .int i (by omega) rfl (dg (fun e=>by rw[e] at z;revert z;decide +kernel) (fun e=>by rw[e] at z;revert z;decide +kernel) _ _)
          · obtain⟨x,rfl⟩:=hs.2.2.1 z;exact .str x (by omega) rfl (dg (fun e=>by rw[e] at z;revert z;decide +kernel) (fun e=>by rw[e] at z;revert z;decide +kernel) _ _)
          · exact absurd z m2
        exact gen sl ps hshp (fun _ h=>h) (fun _ h=>h) hfew
       refine gg (bT (xs:=V.str hd::xr)) (.cons (.str _) hxr1) pd (by rw[List.length_cons];omega) hU hm1 hint (fun Hj sj=>sj.seqT ha1) fun Hj ys sj hUj hys=>?_;refine⟨U,ys,rfl,.inl ⟨SqL.of hUj,fun F hF=>?_⟩⟩;have k5:=smu (o:=HO.tup ys) hF;rw[er] at q;exact q _ _ (k1.trans (sj.trans k5)) (.tup (SqT.of pG) (hys.same k5))
theorem vV (D:Def K mg "_law_turned" sLt):Fn P w K mg base "_law_turned" 1 ["_law_thing","_law_ids"] (ka K 0):=by
 refine D.fn vx (fun vs H Q E h=>?_) (fun _ _ _ _ _ _ us hl=>by obtain⟨a,b,rfl⟩:=il hl;rfl) (fun f cdv A outer s' H vs Q E hr h=>?_)
 · obtain⟨v,m,d,r,kvs,rfl,_⟩:=h;rfl
 · obtain⟨v,m,d,r,kvs,rfl,_,_,_,hok,_⟩:=h;cases hok with
   | int i h=>omega
   | str x h=>omega
   | ex n h=>omega
   | many n ks h=>omega
theorem vU (D:Def K mg "_law_turned" sLt) (T:Blt mg) (kd:mW K) (k:Nat):Fn P w K mg base "_law_turned" (k+1) ["_law_thing","_law_ids"] (ka K k):=by
 induction k with
 | zero=>exact vV D
 | succ k ih=>exact zp D T kd ih
end
end K12
namespace P10
open PySem L2 K12
def lc:List Str→PDs→PDs→Prop
  | [],[],[]=>True
  | s::sl,p::ps,q::qs=>(s="one"∨(s="many"∧(∃ l,p=.tuple l)∧(aA q).length=(aA p).length)∨(s≠"one"∧s≠"many"∧q=p))∧lc sl ps qs
  | _,_,_=>False
theorem gL:∀ {sl:List Str} {ps qs:PDs} (pre post:PDs),lc sl ps qs→cH (pre++(aD sl ps++post)) sl qs pre.length=ps:=by
 intro sl
 induction sl with
 | nil =>
  intro ps qs pre post h;cases ps with
  | nil=>cases qs <;> rfl
  | cons=>cases qs <;> exact h.elim
 | cons s sl ih =>
  intro ps qs pre post h;cases ps with
  | nil=>cases qs <;> exact h.elim
  | cons p ps =>
   cases qs with
   | nil=>exact h.elim
   | cons q qs =>
    obtain⟨h0,h1⟩:=h;have hk:(ba s q).length=(ba s p).length:=by
     unfold ba
     rcases h0 with rfl | ⟨rfl,_,e⟩ | ⟨_,_,rfl⟩
     · rw[if_pos rfl,if_pos rfl];rfl
     · rw[if_neg (by decide +kernel),if_pos rfl,if_neg (by decide +kernel),if_pos rfl];exact e
     · rfl
    rw[bE,List.append_assoc];have h2:=ih (pre++ba s p) post h1;rw[List.append_assoc,lAp] at h2;show eI s q _ pre.length::cH _ sl qs (pre.length+(ba s q).length)=p::ps;rw[hk,h2];congr 1;unfold eI ba
    rcases h0 with rfl | ⟨rfl,⟨l,rfl⟩,e⟩ | ⟨e1,e2,rfl⟩
    · rw[if_pos rfl,if_pos rfl];simp
    · rw[if_neg (by decide +kernel),if_pos rfl,if_neg (by decide +kernel),if_pos rfl,List.drop_left,e,List.take_left];rfl
    · rw[if_neg e1,if_neg e2]
theorem kG {f:PyData→PyData}:∀ {sl:List Str} {ps:PDs},aD sl (List.zipWith (prt f) sl ps)=(aD sl ps).map f:=by
 intro sl
 induction sl with
 | nil=>intro ps;rfl
 | cons s sl ih =>
  intro ps;cases ps with
  | nil=>rfl
  | cons p ps =>
   rw[List.zipWith_cons_cons,bE,bE,List.map_append,ih];congr 1;unfold ba prt;by_cases h1:s="one"
   · rw[if_pos h1,if_pos h1,if_pos h1];rfl
   · rw[if_neg h1,if_neg h1,if_neg h1];by_cases h2:s="many"
     · rw[if_pos h2,if_pos h2,if_pos h2];rfl
     · rw[if_neg h2,if_neg h2];rfl
theorem rQ {f:PyData→PyData} {s:Str} {p:PyData} (h:Shp s p):Shp s (prt f s p):=by
 unfold prt;by_cases h1:s="one"
 · subst h1;rw[if_pos rfl];exact fK
 · rw[if_neg h1];by_cases h2:s="many"
   · subst h2;rw[if_pos rfl];exact rR
   · rw[if_neg h2];exact h
theorem lv {f:PyData→PyData} {sl:List Str} {ps:PDs} (h:Paired Shp sl ps):Paired Shp sl (List.zipWith (prt f) sl ps):=by
 induction h with
 | nil=>exact .nil
 | cons a b ih=>exact .cons (rQ a) ih
theorem Nd.prt {d:PyData} {h:Str} {sl:List Str} {ps:PDs} (n:Nd d h sl ps) (f:PyData→PyData):Nd (.tuple (.str h::List.zipWith (prt f) sl ps)) h sl (List.zipWith (prt f) sl ps) :=
 ⟨rfl,n.mem,lv n.shp,by rw[kG,lMp];exact n.few⟩
theorem je {f:PyData→PyData}:∀ {sl:List Str} {ps:PDs},Paired Shp sl ps→lc sl ps (List.zipWith (prt f) sl ps):=by
 intro sl ps h
 induction h with
 | nil=>exact trivial
 | @cons s p sl ps a b ih =>
  refine⟨?_,ih⟩;unfold prt;by_cases h1:s="one"
  · exact .inl h1
  · rw[if_neg h1];by_cases h2:s="many"
    · rw[if_pos h2];exact .inr (.inl ⟨h2,a.1 h2,by show ((aA p).map f).length=_;rw[lMp]⟩)
    · rw[if_neg h2];exact .inr (.inr ⟨h1,h2,rfl⟩)
theorem zV {h:Str} {sl:List Str} (m:(h,sl)∈tbl) (e:sl=(["meant"]:List Str)∨sl=(["meant","one"]:List Str)):bb h w8=true:=by
 have:∀ p∈tbl,p.2=(["meant"]:List Str)∨p.2=(["meant","one"]:List Str)→bb p.1 w8=true:=by decide +kernel
 exact this _ m e
theorem jh (b:PyData) (bs:PDs) (g:Int→Int) (p:PyData):bA (b::bs) g "bound" p=b:=by unfold bA;rw[if_pos rfl];rfl
theorem gM (bs:PDs) (g:Int→Int) (p:PyData):bA bs g "bounds" p=.tuple bs:=by unfold bA;rw[if_neg (by decide +kernel),if_pos rfl]
theorem eC {is js:List Int} (h:is.map PyData.int=js.map PyData.int):is=js:=by
 induction is generalizing js with
 | nil=>cases js with | nil=>rfl | cons=>cases h
 | cons i r ih =>
  cases js with
  | nil=>cases h
  | cons j s =>
   rw[List.map_cons,List.map_cons] at h
   injection h with h1 h2
   cases h1;rw[ih h2]
theorem oh {h:Str} {sl:List Str} {ps:PDs} {d:PyData} (n:Nd d h sl ps) {f:PyData→PyData} {g g2:Int→Int} {is:List Int} (eb:bi h ps=is.map .int) (hm:∀ i,eJ h ps=some (.int i)→g2 (g i)=i) :
 lc sl ps (cu (is.map .int) g2 sl (List.zipWith (prt f) sl (cu ((is.map g).map .int) g sl ps)))∧bi h (List.zipWith (prt f) sl (cu ((is.map g).map .int) g sl ps))=(is.map g).map .int:=by
 obtain⟨_,hmm,hshp,_⟩:=n;have nobnd:∀ {qs:PDs},bb h w2=false→h≠"fun"→bi h qs=[]:=fun {qs} e1 e2=>by unfold bi;rw[e1,if_neg Bool.false_ne_true,if_neg e2]
 cases b5:bb h w5 with
 | true =>
  have nf:h≠"fun":=fun c=>by subst c;revert b5;decide +kernel
  have nw:sl.head?=some "meant"→bb h w2=false:=fun z=>by
   cases e:bb h w2 with
   | false=>rfl
   | true=>rw[mT hmm e] at z;exact absurd z (by decide +kernel)
  rcases w5S hmm b5 with rfl | rfl | ⟨rfl,b2⟩
  · obtain⟨p0,rfl,s0⟩:=K12.eA hshp;obtain⟨i,rfl⟩:=s0.2.1 (by decide +kernel);have hi:=hm i (by unfold eJ;rw[if_pos (zV hmm (.inl rfl))];rfl);have nw:=nw rfl;rw[nobnd nw nf] at eb;obtain rfl:is=[]:=List.map_eq_nil_iff.mp eb.symm;refine⟨⟨.inr (.inr ⟨by decide +kernel,by decide +kernel,?_⟩),trivial⟩,nobnd nw nf⟩;rw[d9,dg (by decide +kernel) (by decide +kernel),d9,hi]
  · obtain⟨p0,p1,rfl,s0,_⟩:=K12.cb hshp;obtain⟨i,rfl⟩:=s0.2.1 (by decide +kernel);have hi:=hm i (by unfold eJ;rw[if_pos (zV hmm (.inr rfl))];rfl);have nw:=nw rfl;rw[nobnd nw nf] at eb;obtain rfl:is=[]:=List.map_eq_nil_iff.mp eb.symm;refine⟨⟨.inr (.inr ⟨by decide +kernel,by decide +kernel,?_⟩),.inl rfl,trivial⟩,nobnd nw nf⟩;rw[d9,dg (by decide +kernel) (by decide +kernel),d9,hi]
  · obtain⟨p0,p1,p2,rfl,s0,_,_⟩:=K12.eu hshp;obtain⟨i,rfl⟩:=s0.2.1 (by decide +kernel);have e1:∀ {qs:PDs},bi h qs=qs.take 1:=fun {qs}=>by unfold bi;rw[if_pos b2]
    rw[e1] at eb;obtain rfl:is=[i]:=eC (is:=is) (js:=[i]) eb.symm;refine⟨⟨.inr (.inr ⟨by decide +kernel,by decide +kernel,jh _ _ _ _⟩),.inl rfl,.inl rfl,trivial⟩,?_⟩;rw[e1];show [prt f "bound" (bA [.int (g i)] g "bound" (.int i))]=[.int (g i)];rw[jh,dg (by decide +kernel) (by decide +kernel)]
 | false =>
  have nw:bb h w2=false:=by
   have:∀ p∈tbl,bb p.1 w5=false→bb p.1 w2=false:=by decide +kernel
   exact this _ hmm b5
  by_cases hf:h="fun"
  · subst hf;obtain rfl:=lL hmm;obtain⟨p0,p1,rfl,s0,_⟩:=K12.cb hshp;obtain⟨js,rfl,_⟩:=s0.2.2.2 rfl;have e1:∀ {qs:PDs},bi "fun" qs=aA (qs.headD (.tuple [])):=fun {qs}=>by unfold bi;rw[nw,if_neg Bool.false_ne_true,if_pos rfl]
    rw[e1] at eb;obtain rfl:is=js:=eC (is:=is) (js:=js) eb.symm;refine⟨⟨.inr (.inr ⟨by decide +kernel,by decide +kernel,gM _ _ _⟩),.inl rfl,trivial⟩,?_⟩;rw[e1];show aA (prt f "bounds" (bA _ g "bounds" _))=_;rw[gM,dg (by decide +kernel) (by decide +kernel)];rfl
  · rw[nobnd nw hf] at eb;obtain rfl:is=[]:=List.map_eq_nil_iff.mp eb.symm;have ni:=mE hmm b5 hf;have hl:=Paired.length hshp;rw[gD hl ni,gD (by rw[List.length_zipWith,hl,Nat.min_self]) ni];exact⟨je hshp,nobnd nw hf⟩
theorem qH {h:Str} {sl:List Str} {ps:PDs} {d:PyData} (n:Nd d h sl ps) {m:Nat} {g g2:Int→Int} {is:List Int} (eb:bi h ps=is.map .int) (hm:∀ i,eJ h ps=some (.int i)→g2 (g i)=i) :
 ∃ qs,Nd (b7 (aY g) (m+1) d) h sl qs∧bi h qs=(is.map g).map .int∧ao (b7 (aY g) (m+1) d)=(ao d).map (b7 (aY g) m) ∧
  Nd (.tuple (.str h::cu (is.map .int) g2 sl qs)) h sl (cu (is.map .int) g2 sl qs)∧(ao (.tuple (.str h::cu (is.map .int) g2 sl qs))).length=(ao d).length∧gJ (ao d) (.tuple (.str h::cu (is.map .int) g2 sl qs))=d:=by
 obtain⟨is',eis,hisl,hb⟩:=dz n;obtain rfl:is=is':=eC (eb.symm.trans eis);have e2:(bi h ps).map (cI g)=(is.map g).map PyData.int:=by rw[eb,List.map_map,List.map_map];rfl
 have tp:=dB (g:=g) (n:=m) n;rw[e2] at tp;obtain⟨al,hbn⟩:=oh (f:=b7 (aY g) m) n eb hm;have nt:=n.turn g;rw[e2] at nt;have nx:=(nt.2).prt (b7 (aY g) m);rw[← tp] at nx;have ny:=nx.wid g2 hb hisl;have kx:aD sl (List.zipWith (prt (b7 (aY g) m)) sl (cu ((is.map g).map .int) g sl ps))=(ao d).map (b7 (aY g) m):=by rw[kG,fP,n.kids]
 refine⟨_,nx,hbn,by rw[nx.kids,kx],ny,by rw[ny.kids,fP,kx,lMp],?_⟩;rw[ny.put];have z:=gL [] [] al;rw[List.nil_append,List.append_nil,← n.kids] at z;rw[show (0:Nat)=([]:PDs).length from rfl,z];exact n.eq.symm
end P10
namespace PySem
open Sem (wp)
open AutoSeq1 (wpAny_loadPart')
section
variable {prog:Program} {w:World} {A:Around} {E:VSP} {s:Shared}
theorem kQ {Q:List Value→Shared→Prop} {r:Addr} {a b c:Int} {t u v:Tok} {n:Nat} (hh:A.handled=none) (hr:IsRange s.heap r a b c t u v) (hs:Builtin.Range.small a b c=true) (hn:Builtin.Range.rangeSize a b c=n) (hl:n≤2 ^ 24)
 (q:∀ h' tk acc,(∀ b o,s.heap.get? b=some o→h'.get? b=some o)→ItemsOf (fun i v=>∃ t,v=.int (a+i*c) t) acc n→Q acc.toList {s with heap:=h',toks:=tk}):wpAny (model prog w) A (collect (.ref r)) Q E s:=by
 unfold collect;have hS:(s.heap.push {cls:=.type "list",data:=.seq ([]:List Value).toArray}).get? s.heap.objs.size=some {cls:=.type "list",data:=.seq #[] 0}:=Heap.get?_push_size _ rfl;have go:∀ (h':Heap) (tk:Nat) (acc:Array Value) (c':Nat),(∀ b o,b≠s.heap.objs.size→(s.heap.push {cls:=.type "list",data:=.seq ([]:List Value).toArray}).get? b=some o→h'.get? b=some o)→h'.get? s.heap.objs.size=some {cls:=.type "list",dict:=none,data:=.seq acc c',slots:=#[]}→ItemsOf (fun i v=>∃ t,v=.int (a+i*c) t) acc n →
  wpAny (model prog w) A (load s.heap.objs.size>>=fun o=>match o.data with | Data.seq xs _=>pure xs.toList | _=>unsupported "internal:collect") Q E {s with heap:=h',toks:=tk}:=by
  intro h' tk acc c' k1 k2 k3;refine wB (wpAny_load k2 (wP (q h' tk acc (fun b o z=>k1 b o (Nat.ne_of_lt (Heap.lt_size z)) (hpS _ z)) k3)))
 refine wB (wpAny_runValue (codeAny_builtin F.entry_proto_collect ?_));rw[Around.under_plainId F.plain_proto_collect _];refine wB (m:=newList []) (wpAny_newObj_type (wP ⟨plainId_quiet F.plain_list_iadd _,codeAny_builtin F.entry_list_iadd ?_⟩));rw[Around.under_plainId F.plain_list_iadd _];show wpAny _ A.in1 (Builtin.List.listExtendWith (.ref s.heap.objs.size) (.ref r) (.ref s.heap.objs.size)) _ _ _;refine wpAny_mono (wpAny_extend_range (A:=A) (s:={s with heap:=s.heap.push {cls:=.type "list",data:=.seq ([]:List Value).toArray}}) (R:=fun x s'=>x=.ok (.ret (.ref s.heap.objs.size))∧∃ h' tk acc c',s'={s with heap:=h',toks:=tk}∧(∀ b o,b≠s.heap.objs.size→(s.heap.push {cls:=.type "list",data:=.seq ([]:List Value).toArray}).get? b=some o→h'.get? b=some o)∧h'.get? s.heap.objs.size=some {cls:=.type "list",dict:=none,data:=.seq acc c',slots:=#[]}∧ItemsOf (fun i v=>∃ t,v=.int (a+i*c) t) acc n) hh (hpS _ hr) hs hn hl _ _ 0 hS fun h' tk acc c' k1 k2 k3=>⟨rfl,h',tk,acc,c',rfl,k1,k2,k3⟩) (fun fin s' h=>?_) (fun e s' h=>?_)
 · cases fin with
   | done f =>
    obtain⟨e,h',tk,acc,c',rfl,k1,k2,k3⟩:=h;cases e;exact go h' tk acc c' k1 k2 k3
   | again c1=>exact⟨h.1,codeAny_mono h.2 fun x s2 z=>by obtain⟨rfl,h',tk,acc,c',rfl,k1,k2,k3⟩:=z;exact go h' tk acc c' k1 k2 k3⟩
 · exact absurd h.1 (by simp)
end
theorem jX (r:Addr) (a b c:Int) (t u v:Tok) (n:Nat) (hs:Builtin.Range.small a b c=true) (hn:Builtin.Range.rangeSize a b c=n) (hl:n≤2 ^ 24) :
 Meets (Builtin.«tuple.__new__» ⟨[.type "tuple",.ref r],[]⟩) (fun A R s=>A.handled=none∧IsRange s.heap r a b c t u v∧∀ (h':Heap) (tk:Nat) (acc:Array Value),(∀ b o,s.heap.get? b=some o→h'.get? b=some o)→ItemsOf (fun i v=>∃ t,v=.int (a+i*c) t) acc n→R (.ok (.ret (.ref h'.objs.size))) {s with heap:=h'.push {cls:=.type "tuple",data:=.seq acc},toks:=tk}) :=
 .of_wp fun prog w A R s h=>by
  obtain⟨hh,hr,h⟩:=h;have z1:=sub_tuple_self;have z2:=init_tuple_lookup;have z3:=madeHere_tuple;have hT:s.TypeIs (.ref r) "range":=⟨_,hr,rfl⟩;have hh1:A.in1.handled=none:=hh
  wp_walk using wpAny_typeOf hT,kQ hh1 hr hs hn hl
  intro h' tk acc k1 k2;show wpAny _ _ (Builtin.Tuple.tupleExact acc.toList.toArray>>=fun v=>ret v) _ _ _;unfold Builtin.Tuple.tupleExact;have e:acc.toList.toArray=acc:=by simp
  rw[e];exact wB (wpAny_newObj_type (wP ⟨_,rfl,h h' tk acc k1 k2⟩) (by show acc.size≤sizeLine;rw[k2.1,sizeLine_eq];omega))
theorem jG {prog:Program} {w:World} {A:Around} {E:VSP} {s:Shared} {Q:VSP} {r:Addr} {a b c:Int} {t u v:Tok} {n:Nat} (hh:A.handled=none) (hr:IsRange s.heap r a b c t u v) (hs:Builtin.Range.small a b c=true) (hn:Builtin.Range.rangeSize a b c=n) (hl:n≤2 ^ 24)
 (q:∀ (h':Heap) (tk:Nat) (acc:Array Value),(∀ b o,s.heap.get? b=some o→h'.get? b=some o)→ItemsOf (fun i v=>∃ t,v=.int (a+i*c) t) acc n→Q (.ref h'.objs.size) {s with heap:=h'.push {cls:=.type "tuple",data:=.seq acc},toks:=tk}):wpAny (model prog w) A (call (.type "tuple") [.ref r]) Q E s :=
 callType_new F.called_tuple (by decide) (F.typeCall_tuple_1 _) (F.newCall_tuple_1 _) (fun obj=>F.args_object_init_2 obj _) F.entry_tuple_new (jX r a b c t u v n hs hn hl) ⟨hh,hr,fun h' tk acc k1 k2=>⟨⟨_,Heap.get?_push_size _ rfl,rfl⟩,q h' tk acc k1 k2⟩⟩
end PySem
namespace L2
open PySem PySem.Spec PyProof.Rows
def yG (xs:List V) (H:Hp) (Q:VK):Prop:=∃ (i:Int) (k:Nat),xs=[.int i,.int (i+((k:Nat):Int))]∧(-(2 ^ 60)≤i∧i<2 ^ 60)∧k≤1000∧∀ t,H t=none→Q (.ref t) (upd H t (.tup ((List.range k).map fun j=>V.int (i+((j:Nat):Int)))))
theorem oM {i:Int}:∀ {k:Nat} {acc:Array Value},ItemsOf (fun j v=>∃ t,v=.int (i+j*1) t) acc k→aQ ((List.range k).map fun j=>V.int (i+((j:Nat):Int))) acc.toList:=by
 intro k acc h;have g:∀ (l:List Value) (o:Nat),(∀ j v,l[j]?=some v→∃ t,v=Value.int (i+((o+j:Nat):Int)*1) t)→aQ ((List.range' o l.length).map fun j=>V.int (i+((j:Nat):Int))) l:=by
  intro l
  induction l with
  | nil=>intro o _;exact .nil
  | cons v r ih =>
   intro o hl;obtain⟨t,ht⟩:=hl 0 v rfl;refine .cons ⟨t,by rw[ht];simp⟩ (ih (o+1) fun j v hv=>?_);obtain⟨t,ht⟩:=hl (j+1) v hv;exact⟨t,by rw[ht];congr 3;omega⟩
 have z:=g acc.toList 0 fun j v hv=>by
  obtain⟨t,ht⟩:=h.2 j v (by simpa using hv);exact⟨t,by rw[ht,Nat.zero_add]⟩
 rw[Array.length_toList,h.1,← List.range_eq_range'] at z;exact z
theorem wY {X:Cx} {p1 p2 pos1 pos2:Pos} {a b:Expr} {ta:TA} (hm:X.mg "tuple"=none) (hm2:X.mg "range"=none) (ha:PA X [a,b] ta) (hc:X.calm=true:=by rfl) (hg:Gl X "tuple":=by rfl) (hg2:Gl X "range":=by rfl)
 (s1:starEach [.Call (.Name "range" p2) [a,b] [] pos2] X.env=(false,eval (.Call (.Name "range" p2) [a,b] [] pos2) X.env)::starEach [] X.env:=by rfl) (hs:starEach [a,b] X.env=[(false,eval a X.env),(false,eval b X.env)]:=by rfl) (hs2:starEach [b] X.env=[(false,eval b X.env)]:=by rfl)
 (s3:(backTo pos1 (starEach [] X.env)).any (·.1)=false:=by rfl) (s5:backTo pos1 (starEach [] X.env)=[]:=by rfl) :
 PE X (.Call (.Name "tuple" p1) [.Call (.Name "range" p2) [a,b] [] pos2] [] pos1) (tCB yG ta):=by
 intro pins s σ H Q I h;have hh:X.A.handled=none:=I.ok.hd hc;refine wpAny_Call_Name_kw (cW I hg hm cw (PyProof.Rows.callWith_type1 ?_ s1 s3));rw[s1];show wpAny _ _ (spliced ((false,eval (.Call (.Name "range" p2) [a,b] [] pos2) X.env)::backTo pos1 (starEach [] X.env))) _ _ s;rw[s5];refine Calls.spliced_cons (wpAny_Call_Name_kw (cW I hg2 hm2 boot_range (PyProof.Rows.callWith_type1 (thn (ha pos2 pins s σ H _ I h) fun us s1 z=>?_) (by rw[hs,hs2]) (by rw[hs2];rfl))));obtain⟨vs,H1,I1,r1,i,k,rfl,⟨b1,b2⟩,hk,q⟩:=z;cases r1 with
 | cons r rr =>
  cases rr with
  | cons r' rr =>
   cases rr;obtain⟨t,rfl⟩:=r;obtain⟨t',rfl⟩:=r';refine call_range_2 (Calls.spliced_nil (jG hh (IsRange.new ..) (small_one (by omega) (by omega) (by omega) (by omega)) (n:=k) (by rw[rangeSize_one];split <;> omega) (by omega) fun h' tk acc k1 k2=>?_));have I3:Inv X pins σ H1 {s1 with heap:=h',toks:=tk}:=I1.kept (t':=tk) fun b o z=>k1 _ _ (hpS _ z);refine⟨.ref h'.objs.size,_,I3.laid (t':=tk) (o:=.tup ((List.range k).map fun j=>V.int (i+((j:Nat):Int)))) (fun b o e=>hpS _ e) (Nat.le_refl _) ⟨?_,acc.toList,oM k2,?_⟩,rfl,q _ (I3.hok.fresh (Nat.le_refl _))⟩
   · rw[lMp,List.length_range,sizeLine_eq];omega
   · rw[Array.toArray_toList];exact IsTup.new _ _
variable {X:Cx} {o e:Expr} {to:TE} {t:TA} {apos cpos:Pos}
theorem wV (ho:PE X o to) (ha:PA X [e] t) (hbase:attributeBase o "extend" X.env (eval o X.env)=eval o X.env:=by rfl) (hline:(apos.endLine==cpos.line)=true:=by rfl)
 (hfew:((backTo cpos (starEach [e] X.env)).all (fun x=>!x.1)&&(backToKw cpos (keywordEach [] X.env)).all (fun x=>x.1.isSome)&&decide ([e].length+([]:List Keyword).length+(if ([]:List Keyword).isEmpty then 0 else 1)<30))=true:=by rfl)
 (hs:starEach [e] X.env=(false,eval e X.env)::starEach [] X.env:=by rfl) (hplain:(backTo cpos (starEach [] X.env)).any (·.1)=false:=by rfl) :
 PE X (.Call (.Attribute o "extend" apos) [e] [] cpos) (tBM X.K "list" my to t):=u4 PySem.F.plainAttrs_list PySem.F.slot_list_extend PySem.F.type_list_extend nN ho ha hbase hfew hline hs hplain
end L2
namespace P10
open PySem L2 K12
def tL (g:Int→Int):Nat→PyData→List (Key×V)→Prop
  | 0,_,_=>True
  | m+1,o,kvs=>(∀ i,lD o=some (.int i)→gK kvs (g i)=i)∧∀ is:List Int,jM o=is.map .int→∀ k x,(ao o)[k]?=some x→tL g m x (if k+1=(ao o).length then bD kvs (is.map g) is else kvs)
def ChS:Int→List GE→Int→Prop
  | i,[],j=>j=i
  | i,p::r,j=>∃ l,CnD p.1 i p.2.1 l∧ChS l r j
theorem ChS.kids {m:Nat} {r:List GE} {l j:Int} (h:ChS l r j):∀ {ks:PDs} {L:List GE} {i:Int},(L.map fun p=>(p.1,p.2.1))=ks.map (fun x=>(m,x))→CnL (CnD m) i ks l→ChS i (L++r) j:=by
 intro ks
 induction ks with
 | nil =>
  intro L i e z;obtain rfl:L=[]:=List.map_eq_nil_iff.mp e;cases (show l=i from z);exact h
 | cons x ks ih =>
  intro L i e z;cases L with
  | nil=>cases e
  | cons p L =>
   rw[List.map_cons,List.map_cons] at e
   injection e with e1 e2
   obtain⟨q1,q2,q3⟩:=p;cases e1;obtain⟨l1,z1,z2⟩:=z;exact⟨l1,z1,ih e2 z2⟩
theorem nW {m:Nat} {a a':Addr} {kvs kvs':List (Key×V)} {ks:PDs}:(cX m a a' kvs kvs' ks).map (fun p=>(p.1,p.2.1))=ks.map (fun x=>(m,x)):=by
 unfold cX;exact fb (g:=fun p:GE=>(p.1,p.2.1)) (h:=fun x=>(m,x)) (fun _ _=>rfl) ks
theorem lH {m:Nat} {a a':Addr} {kvs kvs':List (Key×V)} {ks:PDs}:(cX m a a' kvs kvs' ks).map (fun p=>p.2.1)=ks:=by
 unfold cX;rw[fb (h:=fun x=>x) (fun _ _=>rfl),List.map_id']
theorem pc {T:PyData→PyData} {m:Nat} {a a':Addr} {kvs kvs':List (Key×V)} {ks:PDs}:(cX m a a' kvs kvs' ks).map (fun p=>(T p.2.1,p.2.2.1))=scp a a' (ks.map T):=by
 unfold cX scp;apply List.ext_getElem?;intro i;rw[gEM,List.getElem?_mapIdx,List.getElem?_mapIdx,gEM,lMp];cases ks[i]? <;> rfl
theorem Prs.rev {K:Fg} {H:Hp} {zs:List V} {ps:List (PyData×Addr)} (h:Prs K H zs ps):Prs K H zs.reverse ps.reverse:=by
 induction h with
 | nil=>exact .nil
 | cons a b c ih=>rw[List.reverse_cons,List.reverse_cons];exact ih.snoc a b
theorem gI (l:List GE):eX l.reverse=eX l:=by
 unfold eX;rw[List.map_reverse,List.sum_reverse]
theorem lq:∀ {is js:List Int} {kvs:List (Key×V)},iK kvs→iK (bD kvs is js):=by
 intro is
 induction is with
 | nil=>intro js kvs h;cases js <;> exact h
 | cons i is ih =>
  intro js kvs h;cases js with
  | nil=>exact h
  | cons j js =>
   refine ih (kvs:=bS kvs (.inl i) (.int j)) fun a v e=>?_;rw[dl] at e;split at e
   · exact⟨j,(Option.some.inj e).symm⟩
   · exact h a v e
theorem rK {K:Fg} {H:Hp} (is:List Int):TDs K H (is.map V.int) (is.map .int):=by
 induction is with
 | nil=>exact .nil
 | cons i r ih=>exact .cons (.int _) ih
end P10
namespace K12
open PySem L2 P10
section
variable {P:Program} {w:World} {K:Fg} {mg:SOV} {base:Heap}
abbrev sCa:Stmt:=top 10
abbrev nCa:List Str:=["function","head","count","body","fresh","met","waiting","node","seen","ids","turned"]
inductive uL (K:Fg) (vs:List V) (H:Hp) (Q:VK):Prop
  | mk (v:V) (hd:Str) (c j:Int) (d:PyData) (g:Int→Int) (n:Nat) (g0_:vs=[v]) (g1_:TD K H v (.tuple [.str hd,.int c,b7 (aY g) n d])) (g2_:WFd n d) (g3_:CnD n c d j) (g4_:tL g n d []) (g5_:(ca n d).length≤900000) (g6_:3*n≤900000) (g7_:0≤c∧c≤1000) (g8_:∀ t H',ak H H'→TD K H' t (.tuple [.str hd,.int c,d])→Q t H'):uL K vs H Q
def vq (K:Fg):Sp:=fun vs H Q _=>uL K vs H Q
theorem yx:aB nCa ["function"] (a7 sCa):=fsM
theorem zG (D:Def K mg "canon" sCa) (T:Blt mg) (me:Fn P w K mg base "bound_by" 1 ["e"] (oX K)) (lZ:Fn P w K mg base "with_ids" 1 ["e","bound","meant"] (xC K)) (fW:Fn P w K mg base "scoped_children" 2 ["e","outer","inner"] (xH K)) (iA:Fn P w K mg base "with_entries" 1 ["table","ids","told"] (xD K)) (oE:Fn P w K mg base "rebuilt" 2 ["met"] (xJ K)):Fn P w K mg base "canon" 3 ["function"] (vq K):=by
 refine D.fn yx (fun vs H Q E h=>?_) (fun _ _ _ _ _ _ us hl=>by obtain⟨a,rfl⟩:=eK hl;rfl) (fun f cdv A outer s' H vs Q E hr h=>?_)
 · obtain⟨v,hd,c,j,d,g,n,rfl,_⟩:=h;rfl
 · obtain⟨v,hd,c,j,d,g,n,rfl,td,wf,hcn,hres,hsz,hn3,⟨c0,c1⟩,q⟩:=h;have nd:=yx.nd;have hu:=bX hr;have hz0:(1000000:Nat)<sizeLine:=by decide
   refine⟨_,(pE (jp (pv 0) (dh rfl (aP (ae (i:=1) nd rfl (Or.inl rfl)) (aP (ae (i:=2) nd rfl (Or.inl rfl)) (aP (ae (i:=3) nd rfl (Or.inl rfl)) cE)))))
 (pE (pN (i:=4) nd rfl (Or.inl rfl) (pv 2))
 (pE (pN (i:=5) nd rfl (Or.inl rfl) (ag pC))
 (pE (pN (i:=6) nd rfl (Or.inl rfl) (ag (pA (au (pA (pv 3) (pA kC pC))) pC)))
 (pE (pZ PassesOwn.never (ky (pv 6) (by intro _;rfl))
 (pE (jp (wU (pv 6)) (dh rfl (aP (ae (i:=7) nd rfl (Or.inl rfl)) (aP (ae (i:=8) nd rfl (Or.inl rfl)) cE))))
 (pE (pN (i:=9) nd rfl (Or.inl rfl) (aa me (hr.mono (by decide)) rfl (pA (pv 7) pC)))
 (pE (pN (i:=10) nd rfl (Or.inl rfl) (wY T.tuple T.range (pA (pv 4) (pA (aC bI (pv 4) (bc T.len (pA (pv 9) pC))) pC))))
 (pE (hV (i:=4) nd rfl (Or.inl rfl) (bc T.len (pA (pv 9) pC)) (lJ))
 (pE (am (aX (pv 5) (pA (aa lZ (hr.mono (by decide)) rfl (pA (pv 7) (pA (pv 10) (pA (pv 8) pC)))) pC)))
 (pI (am (wV (pv 6) (pA (lu (aa fW (hr.mono (by decide)) rfl (pA (pv 7) (pA (pv 8) (pA (aa iA (hr.mono (by decide)) rfl (pA (pv 8) (pA (pv 9) (pA (pv 10) pC)))) pC)))) (bH (iU fY pH))) pC))))))))))
 (pI (az (au (pA (pv 1) (pA (pv 2) (pA (aa oE (hr.mono (by decide)) rfl (pA (pv 5) pC)) pC))))))))))),?_⟩
   dsimp only[bJ,bN,bM];obtain⟨af,xs,rfl,haf,hxs⟩:=td.tup_of;cases hxs with
   | cons t1 hxs =>
   cases hxs with
   | cons t2 hxs =>
   cases hxs with
   | cons t3 hxs =>
   cases hxs;obtain rfl:=t1.str_of;obtain rfl:=t2.int_of
   rename_i v3
   refine a0 fun EH EF=>?_;refine⟨_,rfl,af,_,rfl,haf,rfl,_,_,rfl,_,_,rfl,_,_,rfl,rfl,?_⟩;refine EF _ _ (a0 fun rD iB=>?_);refine⟨_,rfl,?_⟩;refine iB _ _ (a0 fun mF iq=>?_);refine⟨ef,fun M hM=>?_⟩;refine iq _ _ (a0 fun sI kK=>?_);have k1:=smu (o:=HO.lst []) hM;have hM1:(upd H M (.lst [])) M=some (.lst []):=pG;generalize upd H M (.lst [])=H1 at k1 hM1 ⊢;refine⟨_,rfl,fun D0 hD0=>?_⟩;have k2:=smu (o:=HO.dK []) hD0;have hD2:(upd H1 D0 (.dK [])) D0=some (.dK []):=pG;generalize upd H1 D0 (.dK [])=H2 at k2 hD2 ⊢;refine⟨gu,fun t0 ht0=>?_⟩;have k3:=smu (o:=HO.tup [v3,.ref D0]) ht0;have ht3:(upd H2 t0 (.tup [v3,.ref D0])) t0=some (.tup [v3,.ref D0]):=pG;generalize upd H2 t0 (.tup [v3,.ref D0])=H3 at k3 ht3 ⊢;refine⟨eW,fun W hW=>?_⟩;have k4:=smu (o:=HO.lst [.ref t0]) hW;have hW4:(upd H3 W (.lst [.ref t0])) W=some (.lst [.ref t0]):=pG;have k23:=k2.trans k3;have hM4:=k4 _ _ (k23 _ _ hM1);have MW:M≠W:=fun e=>by rw[← e,k23 _ _ hM1] at hW;cases hW
   have hWH:H W=none:=by
    cases e:H W with
    | none=>rfl
    | some o=>rw[k23 _ _ (k1 _ _ e)] at hW;cases hW
   have kk:=(k1.trans k23).trans k4;have hD4:=k4 _ _ (k3 _ _ hD2);have ht4:=k4 _ _ ht3;refine kK _ _ (a0 fun Dk A3=>?_);generalize upd H3 W (.lst [.ref t0])=H4 at k4 hW4 hM4 kk hD4 ht4 ⊢;refine⟨fun k σ Hi=>ak H Hi∧∃ (ms:PDs) (zs ws:List V) (l:List GE) (fr:Int) (x7 x8 x9 x10:Option V),σ=[some (.ref af),some (.str hd),some (.int c),some v3,some (.int fr),some (.ref M),some (.ref W),x7,x8,x9,x10]∧Hi M=some (.lst zs)∧TDs K Hi zs ms∧Hi W=some (.lst ws)∧Prs K Hi ws (l.map fun p=>(b7 (aY g) p.1 p.2.1,p.2.2.1))∧(∀ p∈l,WFd p.1 p.2.1∧Hi p.2.2.1=some (.dK p.2.2.2)∧iK p.2.2.2∧p.2.2.2.length+3*p.1≤3*n∧tL g p.1 p.2.1 p.2.2.2)∧ChS fr l.reverse j∧qT ms.reverse (l.map fun p=>p.2.1)∧ms.reverse.foldl dn (l.map fun p=>p.2.1)=[d]∧k=eX l∧ms.length+k=(ca n d).length∧0≤fr∧fr+3*((k:Nat):Int)≤2800000,⟨_,kk,[],[],[.ref t0],[(n,d,D0,[])],c,_,_,_,_,rfl,hM4,.nil,hW4,.cons ht4 (t3.same kk) .nil,fun p hp=>?_,⟨j,hcn,rfl⟩,trivial,rfl,rfl,?_,c0,?_⟩,?_⟩
   · rw[mSg.mp hp];exact⟨wf,hD4,(fun i v e=>by cases e),by show 0+3*n≤3*n;omega,hres⟩
   · show 0+((ca n d).length+0)=_;omega
   · show c+3*((((ca n d).length+0:Nat)):Int)≤_;omega
   rintro k σ Hi ⟨sm,ms,zs,ws,l,fr,x7,x8,x9,x10,rfl,hMi,hzs,hWi,hprs,hl,hch,hsf,hfo,rfl,hcnt,hf0,hf1⟩;have hzl:=hzs.length;refine⟨_,rfl,_,.inl ⟨ws,SqL.of hWi,rfl⟩,?_⟩
   rcases List.eq_nil_or_concat l with rfl | ⟨l',p,rfl⟩
   · cases hprs;refine pK (by decide) ?_;refine A3 _ _ ?_;refine⟨_,rfl,_,rfl,_,rfl,M,zs,ms,d,rfl,hMi,hzs,by omega,hsf,hfo,fun v5 H5 k5 t5=>?_⟩;refine⟨ee,fun u hu'=>?_⟩;have k6:=smu (o:=HO.tup [.str hd,.int c,v5]) hu';exact q _ _ ((sm.trans k5).trans k6) (.tup (SqT.of pG) (.cons (.str _) (.cons (.int _) (.cons (t5.same k6) .nil))))
   · obtain⟨m,e,a,kvs⟩:=p;rw[List.concat_eq_append] at hprs hl hcnt hch hsf hfo hf1 ⊢;rw[List.map_append] at hprs;obtain⟨ws',t,x,rfl,hprs',ht,tx⟩:=Prs.last hprs;obtain⟨hwe,hae,hid,hke,hre⟩:=hl (m,e,a,kvs) (List.mem_append_right _ (mSg.mpr rfl));obtain⟨m,rfl⟩:∃ m',m=m'+1:=by
      cases m with
      | zero=>exact hwe.elim
      | succ m=>exact⟨m,rfl⟩
     have hwe0:=hwe;obtain⟨he,sl,ps,nde,hkid⟩:=hwe;replace nde:Nd e he sl ps:=nde;replace hke:kvs.length+3*(m+1)≤3*n:=hke;replace hid:iK kvs:=hid;replace tx:TD K Hi x (b7 (aY g) (m+1) e):=tx;obtain⟨is,eis,hisl,hbne⟩:=dz nde;have ebo:jM e=is.map .int:=by rw[nde.eq];exact eis
     have emo:lD e=eJ he ps:=by rw[nde.eq];rfl
     obtain⟨hr1,hr2⟩:=hre;obtain⟨qs,ndx,ebx,ekx,ndy,ekl,ewd⟩:=qH (m:=m) (g:=g) (g2:=gK kvs) nde eis (fun i z=>hr1 i (emo.trans z));rw[List.reverse_append] at hch;obtain⟨l1,⟨kn,ekn,hcl⟩,hch'⟩:=hch;obtain rfl:is=rgI fr kn:=eC (ebo.symm.trans ekn);have hkn:kn=(rgI fr kn).length:=by unfold rgI;rw[lMp,List.length_range]
     rw[← hkn] at hisl;rw[dO] at hcnt hf1;have hw1:eX [(m+1,e,a,kvs)]=(ca (m+1) e).length:=rfl;have hwk:∀ {a':Addr} {kvs':List (Key×V)},eX (cX m a a' kvs kvs' (ao e))+1=(ca (m+1) e).length:=ng;have hlw:=oJ fun p hp=>(hl p (List.mem_append_left _ hp)).1;have hpl:=hprs'.length;rw[lMp] at hpl;refine pL (by cases ws' <;> rfl) ?_;refine⟨_,fun σ' H' z=>z,?_⟩;refine a0 fun Dj A1=>?_;refine⟨_,rfl,.inl ⟨rfl,_,SqL.of hWi⟩,W,_,.ref t,rfl,rfl,hWi,by simp,?_⟩;rw[List.dropLast_concat];have sm5:ak H (upd Hi W (.lst ws')):=aG sm hWH;have hW5:(upd Hi W (.lst ws')) W=some (.lst ws'):=pG;have o5:∀ b o,(∀ ys,o≠.lst ys)→Hi b=some o→(upd Hi W (.lst ws')) b=some o:=fun b o ho z=>by rw[a9 fun e=>by rw[e,hWi] at z;exact ho _ (Option.some.inj z).symm];exact z
     have hM5:(upd Hi W (.lst ws')) M=some (.lst zs):=by rw[a9 MW];exact hMi
     have hp5:=hprs'.put (o:=.lst ws') hWi;have tkW:Tk Hi (upd Hi W (.lst ws')):=bC (o:=.lst ws') (.inr ⟨_,hWi⟩);have tx5:=tx.tk tkW;have hz5:=hzs.tk tkW;have ht5:=o5 t (.tup [x,.ref a]) (fun _ z=>nomatch z) ht;have ha5:=o5 a (.dK kvs) (fun _ z=>nomatch z) hae;have hl5:∀ p∈l',(upd Hi W (.lst ws')) p.2.2.1=some (.dK p.2.2.2):=fun p hp=>o5 _ _ (fun _ z=>nomatch z) (hl p (List.mem_append_left _ hp)).2.1;generalize upd Hi W (.lst ws')=H5 at sm5 hW5 hM5 hp5 tx5 hz5 ht5 ha5 hl5 ⊢;refine⟨t,_,rfl,SqT.of ht5,rfl,_,_,rfl,_,_,rfl,rfl,?_⟩;refine A1 _ _ (a0 fun Di A0=>?_);refine⟨_,rfl,x,_,he,sl,qs,rfl,tx5,ndx,fun v6 H6 k6 t6=>?_⟩;refine A0 _ _ (a0 fun E6 Ca=>?_);rw[ebx] at t6;have t6':=t6;obtain⟨ai,xi,rfl,hai,hxi⟩:=t6.tup_of;have hxl:xi.length=kn:=by rw[hxi.length,lMp,lMp,← hkn]
     refine⟨_,rfl,_,rfl,_,rfl,ai,xi,rfl,.inr hai,_,_,rfl,rfl,fr,xi.length,rfl,⟨by omega,by omega⟩,by omega,fun u hu'=>?_⟩;rw[hxl];have k7:=smu (o:=HO.tup ((List.range kn).map fun j=>V.int (fr+((j:Nat):Int)))) hu';have hu7:TD K (upd H6 u (.tup ((List.range kn).map fun j=>V.int (fr+((j:Nat):Int))))) (.ref u) (.tuple ((rgI fr kn).map .int)):=by
      refine .tup (SqT.of pG) ?_;have ez:((List.range kn).map fun j=>V.int (fr+((j:Nat):Int)))=(rgI fr kn).map V.int:=by unfold rgI;rw[List.map_map];rfl
      rw[ez];exact rK _
     generalize upd H6 u (.tup ((List.range kn).map fun j=>V.int (fr+((j:Nat):Int))))=H7 at k7 hu7 ⊢;refine Ca _ _ (a0 fun E2 C6=>?_);refine⟨_,rfl,_,rfl,ai,xi,rfl,.inr (k7.seqT hai),_,_,rfl,rfl,?_⟩;refine C6 _ _ (a0 fun DY C3=>?_);have k67:=k6.trans k7;have hM7:=k67 _ _ hM5;refine⟨_,rfl,.inl ⟨rfl,_,SqL.of hM7⟩,_,rfl,_,rfl,_,rfl,x,.ref u,a,_,he,sl,qs,(rgI fr kn).map .int,kvs,rfl,tx5.same k67,ndx,hu7,fun z c=>hbne z (List.map_eq_nil_iff.mp c),k67 _ _ ha5,hid,fun v8 H8 k8 t8=>?_⟩;have k68:=k67.trans k8;have hM8:=k68 _ _ hM5;refine⟨M,zs,v8,rfl,rfl,hM8,by omega,?_⟩;refine C3 _ _ ?_;have tkM:Tk H8 (upd H8 M (.lst (zs++[v8]))):=bC (o:=.lst (zs++[v8])) (.inr ⟨_,hM8⟩);have sm9:ak H (upd H8 M (.lst (zs++[v8]))):=aG (sm5.trans k68) hM;have hM9:(upd H8 M (.lst (zs++[v8]))) M=some (.lst (zs++[v8])):=pG;have hW9:(upd H8 M (.lst (zs++[v8]))) W=some (.lst ws'):=by rw[a9 (Ne.symm MW)];exact k68 _ _ hW5
     have g9:∀ b kv,H5 b=some (.dK kv)→(upd H8 M (.lst (zs++[v8]))) b=some (.dK kv):=fun b kv z=>by
      rw[a9 fun e=>by rw[e,hM5] at z;cases z];exact k68 _ _ z
     have ha9:=g9 _ _ ha5;have hl9:∀ p∈l',(upd H8 M (.lst (zs++[v8]))) p.2.2.1=some (.dK p.2.2.2):=fun p hp=>g9 _ _ (hl5 p hp);have hp9:=(hp5.same k68).put (o:=.lst (zs++[v8])) hM8;have hz9:TDs K (upd H8 M (.lst (zs++[v8]))) (zs++[v8]) _:=((hz5.same k68).snoc t8).tk tkM;have tx9:=(tx5.same k68).tk tkM;have t69:=((t6'.same k7).same k8).tk tkM;have hu9:=(hu7.same k8).tk tkM;generalize upd H8 M (.lst (zs++[v8]))=H9 at sm9 hM9 hW9 ha9 hl9 hp9 hz9 tx9 t69 hu9 ⊢;refine⟨_,rfl,.inl ⟨rfl,_,SqL.of hW9⟩,_,rfl,_,rfl,_,rfl,_,rfl,_,rfl,a,.ref ai,.ref u,(rgI fr kn).map g,rgI fr kn,kvs,rfl,ha9,t69,hu9,by rw[lMp],by rw[lMp,← hkn];omega,fun a' H10 k10 ha10=>?_⟩;refine⟨x,a,a',_,he,sl,qs,rfl,tx9.same k10,ndx,fun L zl H11 k11 hL hL11 hz11=>?_⟩;refine⟨_,rfl,_,rfl,L,zl,rfl,rfl,SqL.of hL11,fun p hp=>?_⟩;have k12:=smu (o:=HO.lst zl.reverse) hp;have hp12:(upd H11 p (.lst zl.reverse)) p=some (.lst zl.reverse):=pG;have K12':=k10.trans (k11.trans k12);have hW12:=K12' _ _ hW9;have hM12:=K12' _ _ hM9;rw[ekx] at hz11;have hzl':=hz11.length;have hsl:(scp a a' ((ao e).map (b7 (aY g) m))).length=(ao e).length:=by unfold scp;rw[List.length_mapIdx,lMp]
     have hz12:=(hz11.same k12).rev;have ha12:=k12 _ _ (k11 _ _ ha10);generalize upd H11 p (.lst zl.reverse)=H12 at k12 hp12 K12' hW12 hM12 hz12 ha12 ⊢;have hfew:=nde.few;rw[← nde.kids] at hfew;have tk13:Tk H12 (upd H12 W (.lst (ws'++zl.reverse))):=bC (.inr ⟨_,hW12⟩);have g12:∀ b kv,H12 b=some (.dK kv)→(upd H12 W (.lst (ws'++zl.reverse))) b=some (.dK kv):=fun b kv z=>by
      rw[a9 fun e=>by rw[e,hW12] at z;cases z];exact z
     have hst:dn (l'.map (fun p=>p.2.1)++(ao e).reverse) (.tuple (.str he::cu ((rgI fr kn).map .int) (gK kvs) sl qs))=(l'++[(m+1,e,a,kvs)]).map fun p=>p.2.1:=by
      rw[lp ekl.symm,ewd,List.map_append];rfl
     have hor:(l'++(cX m a a' kvs (bD kvs ((rgI fr kn).map g) (rgI fr kn)) (ao e)).reverse).map (fun p=>p.2.1)=l'.map (fun p=>p.2.1)++(ao e).reverse:=by rw[List.map_append,List.map_reverse,lH]
     refine⟨W,p,ws',zl.reverse,rfl,rfl,hW12,hp12,by rw[List.length_reverse];omega,eX (l'++(cX m a a' kvs (bD kvs ((rgI fr kn).map g) (rgI fr kn)) (ao e)).reverse),?_,aG (sm9.trans K12') hWH,ms++[_],zs++[v8],ws'++zl.reverse,l'++(cX m a a' kvs (bD kvs ((rgI fr kn).map g) (rgI fr kn)) (ao e)).reverse,fr+((kn:Nat):Int),_,_,_,_,by rw[hxl];rfl,by rw[a9 MW];exact hM12,(hz9.same K12').tk tk13,pG,?_,fun p hp=>?_,?_,?_,?_,rfl,?_,by omega,?_⟩
     · rw[dO,dO,gI,hw1];have:=hwk (a':=a') (kvs':=bD kvs ((rgI fr kn).map g) (rgI fr kn));omega
     · rw[List.map_append,List.map_reverse];refine ((hp9.same K12').app ?_).put hW12;have e1:((cX m a a' kvs (bD kvs ((rgI fr kn).map g) (rgI fr kn)) (ao e)).map fun p=>(b7 (aY g) p.1 p.2.1,p.2.2.1))=scp a a' ((ao e).map (b7 (aY g) m)):=by
        rw[← pc (T:=b7 (aY g) m) (m:=m) (kvs:=kvs) (kvs':=bD kvs ((rgI fr kn).map g) (rgI fr kn))];refine List.map_congr_left fun p hp=>?_;obtain⟨k,hk⟩:=List.getElem?_of_mem hp;unfold cX at hk;rw[List.getElem?_mapIdx] at hk;obtain⟨y,hy,rfl⟩:=oMS.mp hk;rfl
       rw[e1];exact hz12
     · rcases mAp.mp hp with hp | hp
       · obtain⟨z1,z2,z3⟩:=hl p (List.mem_append_left _ hp);exact⟨z1,g12 _ _ (K12' _ _ (hl9 p hp)),z3⟩
       · obtain⟨k,hk⟩:=List.getElem?_of_mem (List.mem_reverse.mp hp);unfold cX at hk;rw[List.getElem?_mapIdx] at hk;obtain⟨y,hy,rfl⟩:=oMS.mp hk;have hrk:=hr2 _ ebo k y hy;have hpa:=gY kvs ((rgI fr kn).map g) (rgI fr kn);rw[lMp,← hkn] at hpa;dsimp only;by_cases hk':k+1=(ao e).length
         · rw[if_pos hk'] at hrk;rw[if_pos hk',if_pos hk'];exact⟨hwe0.kid (mGE hy),g12 _ _ ha12,lq hid,by omega,hrk⟩
         · rw[if_neg hk'] at hrk;rw[if_neg hk',if_neg hk'];exact⟨hwe0.kid (mGE hy),g12 _ _ (K12' _ _ ha9),hid,by omega,hrk⟩
     · rw[List.reverse_append,List.reverse_reverse];exact hch'.kids nW hcl
     · rw[List.reverse_append,hor];refine⟨by rw[lAp,List.length_reverse];omega,⟨_,_,_,ndy⟩,?_⟩;show qT ms.reverse (dn _ _);rw[hst];exact hsf
     · rw[List.reverse_append,hor];show List.foldl dn (dn _ _) ms.reverse=_;rw[hst];exact hfo
     · rw[dO,gI,lAp];have:=hwk (a':=a') (kvs':=bD kvs ((rgI fr kn).map g) (rgI fr kn));show ms.length+1+_=_;omega
     · rw[dO,gI];have:=hwk (a':=a') (kvs':=bD kvs ((rgI fr kn).map g) (rgI fr kn));omega
end
end K12
namespace P10
open PySem L2 K12
def kJ (d:PyData):List Int:=(jM d).filterMap fun x=>match x with | .int i=>some i | _=>none
theorem jy {d:PyData} {is:List Int} (h:jM d=is.map .int):kJ d=is:=by
 unfold kJ;rw[h];clear h
 induction is with
 | nil=>rfl
 | cons i r ih=>rw[List.map_cons,List.filterMap_cons,ih]
def eS (d:PyData) (as:List Int):List (Int×List Int):=match lD d with | some (.int i)=>[(i,as)] | _=>[]
def ga:Nat→PyData→List Int→List (Int×List Int)
  | 0,_,_=>[]
  | n+1,d,as=>eS d as++((ao d).mapIdx fun k x=>ga n x (if k+1=(ao d).length then as++kJ d else as)).flatten
def dP (p:Int×List Int):PyData:=.tuple [.int p.1,.tuple (p.2.map .int)]
def bY (F:Addr) (H H':Hp):Prop:=∀ b o,b≠F→H b=some o→H' b=some o
theorem bY.of {F:Addr} {H H':Hp} (s:ak H H'):bY F H H':=fun b o _ e=>s b o e
theorem bY.trans {F:Addr} {H H1 H2:Hp} (x:bY F H H1) (y:bY F H1 H2):bY F H H2:=fun b o h e=>y b o h (x b o h e)
theorem bY.tk {F:Addr} {H H':Hp} (s:bY F H H') {ys:List V} (hF:H F=some (.lst ys)):Tk H H':=fun b xs z=>by
 have ne:b≠F:=fun e=>by
  rw[e] at z
  rcases z with z | ⟨_,z⟩ <;> rw[hF] at z <;> cases z
 rcases z with z | ⟨o',z⟩
 · exact .inl (s _ _ ne z)
 · exact .inr ⟨o',s _ _ ne z⟩
theorem bY.put {F:Addr} {H:Hp} {o:HO}:bY F H (upd H F o):=fun b u h e=>by rw[a9 h];exact e
theorem o7 {α β:Type} {f:Nat→α→List β} {l:List α} {k:Nat} {x:α} (h:l[k]?=some x):((l.mapIdx f).take (k+1)).flatten=((l.mapIdx f).take k).flatten++f k x:=by
 rw[tAO,List.getElem?_mapIdx,h,List.flatten_append];congr 1;show [f k x].flatten=_;simp
theorem jY {α:Type} {f:α→Nat} {l:List α} {k:Nat} {x:α} (h:l[k]?=some x):(((l.take (k+1)).map f).sum)=((l.take k).map f).sum+f x∧((l.take (k+1)).map f).sum≤(l.map f).sum:=by
 constructor
 · rw[tAO,h,List.map_append,List.sum_append];simp
 · conv=>rhs;rw[← List.take_append_drop (k+1) l,List.map_append,List.sum_append]
   exact Nat.le_add_right _ _
end P10
namespace K12
open PySem L2 P10
section
variable {P:Program} {w:World} {K:Fg} {mg:SOV} {base:Heap}
abbrev sMx:Stmt:=top 37
abbrev nMx:List Str:=["_law_e","_law_around","_law_found","_law_inner_here","_law_parts_here","_law_k"]
abbrev nJ:List Str:=["_law_e","_law_around","_law_found"]
inductive ux (K:Fg) (n:Nat) (vs:List V) (H:Hp) (Q:VK):Prop
  | mk (v va:V) (F:Addr) (d:PyData) (as:List Int) (zs:List V) (g0_:vs=[v,va,.ref F]) (g1_:TD K H v d) (g2_:WFd n d) (g3_:TD K H va (.tuple (as.map .int))) (g4_:as.length+3*n≤90000) (g5_:H F=some (.lst zs)) (g6_:zs.length+(ca n d).length≤900000) (g7_:∀ H' zs',bY F H H'→H' F=some (.lst (zs++zs'))→TDs K H' zs' ((ga n d as).map dP)→zs'.length≤(ca n d).length→Q .non H'):ux K n vs H Q
def nE (K:Fg) (n:Nat):Sp:=fun vs H Q _=>ux K n vs H Q
theorem vw:aB nMx nJ (a7 sMx):=fsM
theorem zj {n:Nat} (D:Def K mg "_law_met" sMx) (T:Blt mg) (bZ:Fn P w K mg base "_law_parts" 1 ["_law_e"] (oV K)) (cO:Fn P w K mg base "_law_bound_ids" 1 ["_law_e"] (oX K)) (eF:Fn P w K mg base "_law_met" (n+2) nJ (nE K n)):Fn P w K mg base "_law_met" (n+3) nJ (nE K (n+1)):=by
 refine D.fn vw (fun vs H Q E h=>?_) (fun _ _ _ _ _ _ us hl=>by obtain⟨a,b,c,rfl⟩:=fO hl;rfl) (fun f cdv A outer s' H vs Q E hr h=>?_)
 · obtain⟨v,va,F,d,as,zs,rfl,_⟩:=h;rfl
 · obtain⟨v,va,F,d,as,zs,rfl,td,wf,tva,has,hF,hsz,q⟩:=h;have nd:=vw.nd;have hz0:(1000000:Nat)<sizeLine:=by decide
   have r1:cU 1 (A.deeper (PyProof.Rows.envOfC "_law_met" (a7 sMx) s'.heap.objs.size f cdv)):=hr.mono (by omega);refine⟨_,(pE (pN (i:=3) nd rfl (Or.inl rfl) (aC cR (pv 1) (aa cO r1 rfl (pA (pv 0) pC))))
 (pE (aN (pO cA (aq aF (pv 0) pH (fun _ _=>rfl)) (au (pA pD (pA pD pC))) (by with_unfolding_all rfl)) (pI (am (aX (pv 2) (pA (au (pA (aq aF (pv 0) pH (fun _ _=>rfl)) (pA (pv 1) pC))) pC)))) aE)
 (pE (pN (i:=4) nd rfl (Or.inl rfl) (aa bZ r1 rfl (pA (pv 0) pC)))
 (pI (bp PassesOwn.never rfl (bz rfl T.range (pA (bc T.len (pA (pv 4) pC)) pC)) (ae (i:=5) nd rfl (Or.inl rfl))
 (pI (aN (pO aV (aC bI (pv 5) pH) (bc T.len (pA (pv 4) pC)) (pP _)) (pI (am (aa eF hr rfl (pA (aq aH (pv 4) (pv 5) (fun _ _=>rfl)) (pA (pv 3) (pA (pv 2) pC)))))) (pI (am (aa eF hr rfl (pA (aq aH (pv 4) (pv 5) (fun _ _=>rfl)) (pA (pv 1) (pA (pv 2) pC))))))))))))),?_⟩
   dsimp only[bJ,bN,bM];have wf0:=wf;obtain⟨hd,sl,ps,nde,hkid⟩:=wf;obtain⟨is,eis,hisl,_⟩:=dz nde;have ebo:jM d=is.map .int:=by rw[nde.eq];exact eis
   have eid:=jy ebo;have emo:lD d=eJ hd ps:=by rw[nde.eq];rfl
   have nde0:=nde;obtain⟨ed,hm,hshp,hfew⟩:=nde0;obtain⟨a,xs,rfl,ha,hx⟩:=(show TD K H v (.tuple (.str hd::ps)) from ed▸td).tup_of;obtain⟨x0,xr,rfl,hx0,hxr⟩:∃ x0 xr,xs=x0::xr∧TD K H x0 (.str hd)∧TDs K H xr ps:=by
    cases hx with
    | cons p q=>exact⟨_,_,rfl,p,q⟩
   obtain rfl:=hx0.str_of;obtain⟨ra,xa,rfl,hra,hxa⟩:=tva.tup_of;have at0:∀ {x:V} {r:List V},atI (x::r) 0=some x:=fun {x r}=>pJ (j:=0) rfl;have at1:∀ {x y:V} {r:List V},atI (x::y::r) 1=some y:=fun {x y r}=>pJ (j:=1) rfl;have hkl:(ao d).length≤8:=by rw[nde.kids];exact hfew
   have hpre:(ca (n+1) d).length=((ao d).map fun x=>(ca n x).length).sum+1:=by
    show (((ao d).map (ca n)).flatten).length+1=_;rw[List.length_flatten,List.map_map];rfl
   refine a0 fun rD iB=>?_;refine⟨_,rfl,_,rfl,_,d,hd,sl,ps,rfl,td,nde,fun v1 H1 k1 t1=>?_⟩;rw[eis] at t1;obtain⟨c1,w1,rfl,_,_⟩:=t1.tup_of;refine dH (tva.same k1) t1 (by rw[lMp,lMp];omega) fun pi H2 k2 t2=>?_;rw[← List.map_append,← eid] at t2;refine iB _ _ (a0 fun mF iq=>?_);have K2:=k1.trans k2;have d7:∀ (H3:Hp) (z0:List V),bY F H2 H3→H3 F=some (.lst (zs++z0))→TDs K H3 z0 ((eS d as).map dP)→z0.length≤1→mF [some (.ref a),some (.ref ra),some (.ref F),some (.ref pi),none,none] H3:=by
    intro H3 z0 sm3 hF3 tz0 hl0;have tk3:Tk H2 H3:=sm3.tk (K2 _ _ hF);have td3:=(td.same K2).tk tk3;refine iq _ _ (a0 fun sI kK=>?_);refine⟨_,rfl,_,d,n,rfl,td3,wf0,fun L H4 ys k4 hL hL4 hys=>?_⟩;have hyl:=hys.length;have LF:L≠F:=fun e=>by rw[e,hF3] at hL;cases hL
    refine kK _ _ ?_;refine⟨_,rfl,L,ys,rfl,.inl (SqL.of hL4),_,rfl,by omega,by omega,?_⟩;rw[show ((ys.length:Nat):Int).toNat=ys.length from Int.toNat_natCast _];show aw _ _ _ _ _ _;refine aw.byN (b4 (n:=ys.length)) (fun k σ Hi=>bY F H Hi∧Hi L=some (.lst ys)∧TDs K Hi ys (ao d)∧TD K Hi (.ref ra) (.tuple (as.map .int))∧TD K Hi (.ref pi) (.tuple ((as++kJ d).map .int))∧∃ (zk:List V) (x5:Option V),σ=[some (.ref a),some (.ref ra),some (.ref F),some (.ref pi),some (.ref L),x5]∧Hi F=some (.lst (zs++zk))∧TDs K Hi zk ((eS d as++(((ao d).mapIdx fun k x=>ga n x (if k+1=(ao d).length then as++kJ d else as)).take k).flatten).map dP)∧zk.length≤1+(((ao d).take k).map fun x=>(ca n x).length).sum)
     ⟨(bY.of K2).trans (sm3.trans (bY.of k4)),hL4,hys,((tva.same K2).tk tk3).same k4,(t2.tk tk3).same k4,z0,_,rfl,k4 _ _ hF3,by simpa using tz0.same k4,by simpa using hl0⟩ (fun _ _ _ _ _=>trivial) ?_ ?_
    · rintro k y σ Hi N_ B_ hN_ hB_ hy ⟨sm,hLi,hyi,tvi,tpi,zk,x5,rfl,hFi,tzk,hlk⟩;have hic:k<ys.length:=by have:=(gES.mp hy).1;rw[bm] at this;exact this
      obtain rfl:=ei hy;have hzk:ys[k]?=some ys[k]:=gEE hic;obtain⟨x,hxk,tx⟩:=hyi.get hzk;have wfx:=wf0.kid (mGE hxk);obtain⟨st1,st2⟩:=jY (f:=fun x=>(ca n x).length) hxk;have go:∀ (va':V),TD K Hi va' (.tuple ((if k+1=(ao d).length then as++kJ d else as).map .int))→nE K n [ys[k],va',.ref F] Hi (fun _ H'=>N_ [some (.ref a),some (.ref ra),some (.ref F),some (.ref pi),some (.ref L),some (.int ((k:Nat):Int))] H') E0:=by
       intro va' t5;have hal:(if k+1=(ao d).length then as++kJ d else as).length+3*n≤90000:=by
        split
        · rw[lAp,eid];omega
        · omega
       refine⟨_,va',F,x,_,zs++zk,rfl,tx,wfx,t5,hal,hFi,by rw[lAp];omega,fun H6 z6 k6 hF6 t6 hl6=>?_⟩;have tk6:=k6.tk hFi;refine hN_ _ _ ⟨sm.trans k6,k6 _ _ LF hLi,hyi.tk tk6,tvi.tk tk6,tpi.tk tk6,zk++z6,_,rfl,by rw[← List.append_assoc];exact hF6,?_,by rw[lAp];omega⟩;rw[o7 hxk,← List.append_assoc,List.map_append];exact (tzk.tk tk6).app t6
      refine⟨_,rfl,_,_,rfl,rfl,_,rfl,L,ys,rfl,.inl (SqL.of hLi),rfl,_,rfl,?_⟩;by_cases hlast:k+1=(ao d).length
      · refine pL (by simp;omega) ?_;exact⟨_,rfl,_,rfl,L,ys,_,ys[k],rfl,rfl,SqL.of hLi,pJ hzk,_,rfl,_,rfl,go _ (by rw[if_pos hlast];exact tpi)⟩
      · refine pK (by simp;omega) ?_;exact⟨_,rfl,_,rfl,L,ys,_,ys[k],rfl,rfl,SqL.of hLi,pJ hzk,_,rfl,_,rfl,go _ (by rw[if_neg hlast];exact tvi)⟩
    · rintro σ Hi ⟨sm,hLi,hyi,tvi,tpi,zk,x5,rfl,hFi,tzk,hlk⟩;rw[bm] at tzk hlk;refine q Hi zk sm hFi ?_ ?_
      · rw[hyl,List.take_of_length_le (by rw[List.length_mapIdx];exact Nat.le_refl _)] at tzk;exact tzk
      · rw[hyl,List.take_length] at hlk;omega
   have hF2:=K2 _ _ hF;refine⟨_,rfl,a,_,0,.str hd,rfl,rfl,K2.seqT ha,at0,gu,fun t1 ht1=>?_⟩;have k3:=smu (o:=HO.tup (w8.map V.str)) ht1;refine⟨t1,w8.map V.str,rfl,.inr (SqT.of pG),rfl,cB _,_,rfl,?_⟩;rw[e8];have g1:upd H2 t1 (.tup [V.str "name",V.str "set"])=upd H2 t1 (.tup (w8.map V.str)):=rfl;rw[g1];generalize upd H2 t1 (.tup (w8.map V.str))=H3 at k3 ⊢;have K3:=K2.trans k3;have hF3:=K3 _ _ hF;have ha3:=K3.seqT ha;have hxr3:=hxr.same K3;cases b1:bb hd w8 with
   | false =>
    have em:eS d as=[]:=by unfold eS;rw[emo,ii b1]
    exact aZ (d7 H3 [] (bY.of k3) (by rw[List.append_nil];exact hF3) (by rw[em];exact .nil) (Nat.zero_le _))
   | true =>
    obtain⟨y0,yr,rfl,p0,pr,rfl,e0⟩:∃ y0 yr,xr=y0::yr∧∃ p0 pr,ps=p0::pr∧TD K H3 y0 p0:=by
     rcases zW hm b1 with rfl | rfl
     · obtain⟨p0,rfl,_⟩:=eA hshp;obtain⟨y0,rfl,e0⟩:=xn hxr3;exact⟨_,_,rfl,_,_,rfl,e0⟩
     · obtain⟨p0,p1,rfl,_⟩:=cb hshp;obtain⟨y0,y1,rfl,e0,_⟩:=ln hxr3;exact⟨_,_,rfl,_,_,rfl,e0⟩
    have em:lD d=some p0:=by rw[emo];unfold eJ;rw[if_pos b1];rfl
    obtain⟨i,rfl⟩:=sJ nde em;obtain rfl:=e0.int_of;have eh:eS d as=[(i,as)]:=by unfold eS;rw[em]
    refine bx ⟨_,rfl,.inl ⟨rfl,_,SqL.of hF3⟩,_,rfl,a,_,1,_,rfl,rfl,ha3,at1,_,rfl,gu,fun tt htt=>?_⟩;have k4:=smu (o:=HO.tup [V.int i,V.ref ra]) htt;have ht4:TD K (upd H3 tt (.tup [V.int i,V.ref ra])) (.ref tt) (dP (i,as)):=.tup (SqT.of pG) (.cons (.int _) (.cons ((tva.same K3).same k4) .nil));generalize upd H3 tt (.tup [V.int i,V.ref ra])=H4 at k4 ht4 ⊢;have hF4:=k4 _ _ hF3;refine⟨F,zs,.ref tt,rfl,rfl,hF4,by omega,?_⟩;refine d7 _ [.ref tt] ((bY.of (k3.trans k4)).trans bY.put) pG ?_ (Nat.le_refl _);rw[eh];exact .cons (ht4.tk (bC (.inr ⟨_,hF4⟩))) .nil
theorem vT (D:Def K mg "_law_met" sMx):Fn P w K mg base "_law_met" 2 nJ (nE K 0):=by
 refine D.fn vw (fun vs H Q E h=>?_) (fun _ _ _ _ _ _ us hl=>by obtain⟨a,b,c,rfl⟩:=fO hl;rfl) (fun f cdv A outer s' H vs Q E hr h=>?_)
 · obtain⟨v,va,F,d,as,zs,rfl,_⟩:=h;rfl
 · obtain⟨v,va,F,d,as,zs,rfl,td,wf,_⟩:=h;exact wf.elim
theorem vS (D:Def K mg "_law_met" sMx) (T:Blt mg) (bZ:Fn P w K mg base "_law_parts" 1 ["_law_e"] (oV K)) (cO:Fn P w K mg base "_law_bound_ids" 1 ["_law_e"] (oX K)) (n:Nat):Fn P w K mg base "_law_met" (n+2) nJ (nE K n):=by
 induction n with
 | zero=>exact vT D
 | succ n ih=>exact zj D T bZ cO ih
end
end K12
namespace P10
open PySem L2 K12
def OkP (g:Int→Int) (p:Int×List Int):Prop:=(∀ a∈p.2,g a≠g p.1)∨∃ k:Nat,p.2[k]?=some p.1∧∀ (j:Nat) (a:Int),k<j→p.2[j]?=some a→g a≠g p.1
theorem wd:∀ {n:Nat} {d:PyData} {as:List Int},WFd n d→∀ p∈ga n d as,p.2.length≤as.length+3*n:=by
 intro n
 induction n with
 | zero=>exact fun h=>h.elim
 | succ n ih =>
  intro d as h p hp;have h0:=h;obtain⟨hd,sl,ps,nde,_⟩:=h;obtain⟨is,eis,hisl,_⟩:=dz nde;have ebo:jM d=is.map .int:=by rw[nde.eq];exact eis
  have eid:=jy ebo
  rcases mAp.mp hp with hp | hp
  · unfold eS at hp;split at hp
    · rw[mSg.mp hp];exact Nat.le_add_right _ _
    · exact absurd hp nMN
  · obtain⟨l,hl,hpl⟩:=List.mem_flatten.mp hp;obtain⟨k,hk⟩:=List.getElem?_of_mem hl;rw[List.getElem?_mapIdx] at hk;obtain⟨y,hy,rfl⟩:=oMS.mp hk;have:=ih (h0.kid (mGE hy)) p hpl;split at this
    · rw[lAp,eid] at this;omega
    · omega
def plc (g:Int→Int) (i:Int) (as:List Int) (n:Nat):List Nat:=(List.range n).filter fun k=>decide (g (as.getD k 0)=g i)
theorem qb (g:Int→Int) (i:Int) (as:List Int) (n:Nat):plc g i as (n+1)=plc g i as n++if g (as.getD n 0)=g i then [n] else []:=by
 unfold plc;rw[List.range_succ,List.filter_append];congr 1;by_cases h:g (as.getD n 0)=g i
 · rw[if_pos h,List.filter_cons_of_pos (by simpa using h)];rfl
 · rw[if_neg h,List.filter_cons_of_neg (by simpa using h)];rfl
theorem su {g:Int→Int} {i:Int} {as:List Int} (h:plc g i as as.length=[]):OkP g (i,as):=by
 refine .inl fun a ha e=>?_;obtain⟨k,hk⟩:=List.getElem?_of_mem ha;have hlt:=(gES.mp hk).1;have:k∈plc g i as as.length:=List.mem_filter.mpr ⟨List.mem_range.mpr hlt,by rw[List.getD_eq_getElem?_getD,hk];simpa using e⟩;rw[h] at this;exact absurd this nMN
theorem qc {g:Int→Int} {i:Int} {as:List Int} {l:List Nat} {k:Nat} (h:plc g i as as.length=l++[k]):k<as.length∧(as[k]?=some i→OkP g (i,as)):=by
 have hk:k∈plc g i as as.length:=by rw[h];simp
 have hlt:=List.mem_range.mp (List.mem_filter.mp hk).1;refine⟨hlt,fun e=>.inr ⟨k,e,fun j a hj ha c=>?_⟩⟩;have hjl:=(gES.mp ha).1;have hjm:j∈plc g i as as.length:=List.mem_filter.mpr ⟨List.mem_range.mpr hjl,by rw[List.getD_eq_getElem?_getD,ha];simpa using c⟩;have pw:(plc g i as as.length).Pairwise (·<·):=List.pairwise_lt_range.filter _;rw[h] at pw hjm;rw[List.pairwise_append] at pw
 rcases mAp.mp hjm with z | z
 · have:=pw.2.2 j z k (by simp);omega
 · rw[mSg.mp z] at hj;omega
end P10
namespace K12
open PySem L2 P10
section
variable {P:Program} {w:World} {K:Fg} {mg:SOV} {base:Heap}
abbrev sHd:Stmt:=top 38
abbrev nHd:List Str:=["_law_body","_law_ids","_law_met_here","_law_one","_law_around","_law_others","_law_meant_here","_law_places"]
abbrev vI:List Str:=["_law_body","_law_ids"]
inductive uF (K:Fg) (n:Nat) (vs:List V) (H:Hp) (Q:VK):Prop
  | mk (v:V) (m:Addr) (d:PyData) (kvs:List (Key×V)) (g0_:vs=[v,.ref m]) (g1_:TD K H v d) (g2_:WFd n d) (g3_:H m=some (.dK kvs)) (g4_:iK kvs) (g5_:3*n≤90000) (g6_:(ca n d).length≤900000) (g7_:∀ b H',ak H H'→(b=false→∀ p∈ga n d [],OkP (gK kvs) p)→Q (.bl b) H'):uF K n vs H Q
def xP (K:Fg) (n:Nat):Sp:=fun vs H Q _=>uF K n vs H Q
theorem yp:aB nHd vI (a7 sHd):=fsM
theorem BE:(["_law_other","_law_ids"]:List Str).Nodup:=by decide +kernel
theorem BH:(["_law_k","_law_others","_law_meant_here"]:List Str).Nodup:=by decide +kernel
theorem zy {n:Nat} (D:Def K mg "_law_hides" sHd) (T:Blt mg) (eF:Fn P w K mg base "_law_met" (n+2) nJ (nE K n)):Fn P w K mg base "_law_hides" (n+3) vI (xP K n):=by
 refine D.fn yp (fun vs H Q E h=>?_) (fun _ _ _ _ _ _ us hl=>by obtain⟨a,b,rfl⟩:=il hl;rfl) (fun f cdv A outer s' H vs Q E hr h=>?_)
 · obtain⟨v,m,d,kvs,rfl,_⟩:=h;rfl
 · obtain⟨v,m,d,kvs,rfl,td,wf,hm,hint,hn3,hsz,q⟩:=h;have nd:=yp.nd;have hu:=bX hr;have hz0:(1000000:Nat)<sizeLine:=by decide
   refine⟨_,(pE (pN (i:=2) nd rfl (Or.inl rfl) (ag pC))
 (pE (am (aa eF hr rfl (pA (pv 0) (pA (au pC) (pA (pv 2) pC)))))
 (pE (bp PassesOwn.never rfl (bu (pv 2)) (dh rfl (aP (ae (i:=3) nd rfl (Or.inl rfl)) (aP (ae (i:=4) nd rfl (Or.inl rfl)) cE)))
 (pE (pN (i:=5) nd rfl (Or.inr rfl) (dU (own:=["_law_other"]) (outs:=[(1,"_law_ids")]) rfl (aI.of (a7 sHd) nHd) (eZ (pv 4)) (fun _ _ _ _=>⟨(ae (i:=0) BE rfl (Or.inl rfl)),bL,(dv hu (pv 1) (pv 0) (pv 0) ⟨rfl,rfl,rfl,rfl⟩)⟩)))
 (pE (pN (i:=6) nd rfl (Or.inr rfl) (dv hu (pv 1) (pv 3) (pv 3) ⟨rfl,rfl,rfl,rfl⟩))
 (pE (eR (i0:=7) (own:=["_law_k"]) (outs:=[(5,"_law_others"),(6,"_law_meant_here")]) (tc:=gl (tOp rEq (tOp (pV K) (cq 1) (cq 0)) (cq 2))) rfl (aI.of (a7 sHd) nHd) (bz rfl T.range (pA (bc T.len (pA (pv 5) pC)) pC)) (fun _ _ _ _=>⟨(ae (i:=0) BH rfl (Or.inl rfl)),(cx (pO aV (aq aH (pv 1) (pv 0) (fun _ _=>rfl)) (pv 2) (pP _))),(pv 0)⟩) nd rfl rfl)
 (pI (aN (PW.pt (gn (PW.pt (b8 (pO (dX hu) (pv 7) (ag pC) (pP _)) (b8 (pO cA (pv 3) (pv 4) (by with_unfolding_all rfl)) (bn (pO u5 (aq aF (pv 4) (aq aH (pv 7) (iU fY pH) (fun _ _=>rfl)) (fun _ _=>rfl)) (pv 3) (pP _)))))) (dS (PW.pt (b8 (pO (dX hu) (pv 7) (ag pC) (pP _)) (bn (pO dC (pv 3) (pv 4) (by with_unfolding_all rfl)))))))) (pI (az dW)) aE))))))
 (pI (az dW))))),?_⟩
   dsimp only[bJ,bN,bM];refine a0 fun rD iB=>?_;refine⟨ef,fun M hM=>?_⟩;refine iB _ _ (a0 fun mF iq=>?_);have k1:=smu (o:=HO.lst []) hM;have hM1:(upd H M (.lst [])) M=some (.lst []):=pG;generalize upd H M (.lst [])=H1 at k1 hM1 ⊢;refine⟨_,rfl,ef,fun e0 he0=>?_⟩;have k2:=smu (o:=HO.tup []) he0;have te0:TD K (upd H1 e0 (.tup [])) (.ref e0) (.tuple (([]:List Int).map .int)):=.tup (SqT.of pG) .nil;generalize upd H1 e0 (.tup [])=H2 at k2 te0 ⊢;refine⟨_,rfl,v,.ref e0,M,d,[],[],rfl,(td.same k1).same k2,wf,te0,by show 0+3*n≤90000;omega,k2 _ _ hM1,by show 0+_≤_;omega,fun H3 zs s3 hM3 hzs hzl=>?_⟩;rw[List.nil_append] at hM3;have sm3:ak H H3:=fun b o e=>s3 b o (bh e hM) (k2 _ _ (k1 _ _ e));have hzl2:=hzs.length;rw[lMp] at hzl2;refine iq _ _ (a0 fun sI kK=>?_);refine⟨_,rfl,M,rfl,⟨_,SqL.of hM3⟩,?_⟩;show aw _ _ _ _ _ _;refine aw.byN (aK (xs:=zs)) (fun j σ Hi=>ak H3 Hi∧(∀ p∈(ga n d []).take j,OkP (gK kvs) p)∧∃ x3 x4 x5 x6 x7,σ=[some v,some (.ref m),some (.ref M),x3,x4,x5,x6,x7])
    ⟨ak.refl _,fun p hp=>absurd hp nMN,_,_,_,_,_,rfl⟩ (fun j σ Hi _ z=>SqL.of (z.1 _ _ hM3)) ?_ ?_
   · rintro j u σ Hi N_ B_ hN_ hB_ hu' ⟨sm,hok,x3,x4,x5,x6,x7,rfl⟩;obtain⟨dd,hdd,tu⟩:=(hzs.same sm).get hu';rw[gEM] at hdd;obtain⟨⟨i,as⟩,hp,rfl⟩:=oMS.mp hdd;have hal:=wd wf _ (mGE hp);replace hal:as.length≤0+3*n:=hal;obtain⟨t,xt,rfl,ht,hxt⟩:=tu.tup_of;obtain⟨y0,y1,rfl,e0',e1'⟩:=ln hxt;obtain rfl:=e0'.int_of;obtain⟨ra,xa,rfl,hra,hxa⟩:=e1'.tup_of;obtain rfl:=gN hxa;have next:∀ (H':Hp) (x5 x6 x7:Option V),ak Hi H'→OkP (gK kvs) (i,as)→N_ [some v,some (.ref m),some (.ref M),some (.int i),some (.ref ra),x5,x6,x7] H':=by
      intro H' x5 x6 x7 s5 ok;refine hN_ _ _ ⟨sm.trans s5,fun p hp'=>?_,_,_,_,_,_,rfl⟩;rw[tAO,hp] at hp'
      rcases mAp.mp hp' with z | z
      · exact hok p z
      · rw[mSg.mp z];exact ok
     have hmi:=(sm3.trans sm) _ _ hm;refine⟨t,_,rfl,ht,rfl,_,_,rfl,_,_,rfl,rfl,?_⟩;refine a0 fun Dk A3=>?_;rw[cz,cj];refine⟨_,rfl,ra,rfl,⟨_,hra⟩,fun U hU=>?_⟩;refine b6.by (bT (xs:=as.map V.int)) (fun j σ Hj=>ak Hi Hj∧Hj U=some (.lst ((as.take j).map fun i=>V.int (gK kvs i)))∧∃ y,σ=[y,some (.ref m)]) ⟨smu hU,pG,_,rfl⟩ (fun j σ Hj _ z=>z.1.seqT hra) ?_ ?_
     · rintro j u σ Hj huj ⟨sj,hUj,y',rfl⟩;rw[gEM] at huj;obtain⟨i',hi',rfl⟩:=oMS.mp huj;rw[aL,df];have hmj:=sj _ _ hmi;refine bx ⟨_,rfl,m,rfl,.inl ⟨kvs,.inl hmj⟩,_,rfl,_,rfl,_,bR.k (k:=.inl i') hmj,_,hUj,by rw[lMp,lTk];omega,aG sj hU,?_,_,rfl⟩;rw[pG,tAO,hi',gc hint];simp
     rintro σ Hj ⟨sj,hUj,y',rfl⟩;rw[lMp,List.take_length] at hUj;rw[aL];refine A3 _ _ (a0 fun Dj A1=>?_);have hmj:=sj _ _ hmi;refine⟨_,rfl,m,rfl,.inl ⟨kvs,.inl hmj⟩,_,rfl,_,rfl,_,bR.k (k:=.inl i) hmj,?_⟩;rw[gc hint];refine A1 _ _ (a0 fun Di A0=>?_);rw[cz,cj];refine⟨_,rfl,U,_,rfl,.inl (SqL.of hUj),_,rfl,by rw[lMp];omega,by rw[lMp];omega,fun G hG=>?_⟩;rw[lMp,show ((as.length:Nat):Int).toNat=as.length from Int.toNat_natCast _];refine b6.by (b4 (n:=as.length)) (fun k σ Hk=>ak Hj Hk∧Hk G=some (.lst ((plc (gK kvs) i as k).map fun t=>V.int ((t:Nat):Int)))∧∃ y,σ=[y,some (.ref U),some (.int (gK kvs i))]) ⟨smu hG,pG,_,rfl⟩ (fun _ _ _ _ _=>trivial) ?_ ?_
     · rintro k u σ Hk huk ⟨sk,hGk,y',rfl⟩;have hic:k<as.length:=by have:=(gES.mp huk).1;rw[bm] at this;exact this
       obtain rfl:=ei huk;rw[aL];have hak:as[k]?=some as[k]:=gEE hic;have egd:as.getD k 0=as[k]:=by rw[List.getD_eq_getElem?_getD,hak];rfl
       refine⟨_,rfl,_,rfl,U,_,_,.int (gK kvs as[k]),rfl,rfl,SqL.of (sk _ _ hUj),pJ (by rw[gEM,hak];rfl),_,rfl,rfl,_,rfl,?_⟩;rw[qb,egd];have hpl:(plc (gK kvs) i as k).length≤k:=by
        unfold plc;have:=List.length_filter_le (fun k=>decide (gK kvs (as.getD k 0)=gK kvs i)) (List.range k);rw[List.length_range] at this;exact this
       by_cases e:gK kvs as[k]=gK kvs i
       · rw[if_pos e];refine pL (by simp[e]) ⟨_,rfl,_,hGk,by rw[lMp];omega,aG sk hG,?_,_,rfl⟩;rw[pG,List.map_append];rfl
       · rw[if_neg e,List.append_nil];exact pK (by simp[e]) ⟨sk,hGk,_,rfl⟩
     rintro σ Hk ⟨sk,hGk,y',rfl⟩;rw[bm] at hGk;rw[aL];refine A0 _ _ ?_;have S6:=sj.trans sk;refine⟨_,rfl,ef,fun Z hZ=>?_⟩;have k7:=smu (o:=HO.lst []) hZ;have hZ7:(upd Hk Z (.lst [])) Z=some (.lst []):=pG;generalize upd Hk Z (.lst [])=H7 at k7 hZ7 ⊢;have hG7:=k7 _ _ hGk;have S7:=S6.trans k7;have hra7:=S7.seqT hra;refine⟨G,Z,_,rfl,rfl,SqL.of hG7,SqL.of hZ7,_,rfl,?_⟩;have SH:ak H H7:=sm3.trans (sm.trans S7)
     rcases List.eq_nil_or_concat (plc (gK kvs) i as as.length) with epl | ⟨l,k,epl⟩
     · rw[epl] at hG7 ⊢;refine pK (by simp) (pK (by simp) ?_);refine⟨_,rfl,ef,fun Z2 hZ2=>?_⟩;have k8:=smu (o:=HO.lst []) hZ2;refine⟨G,Z2,_,rfl,rfl,SqL.of (k8 _ _ hG7),SqL.of pG,_,rfl,?_⟩;exact pK (by simp) (pK (by simp) (next _ _ _ _ (S7.trans k8) (su epl)))
     · rw[List.concat_eq_append] at epl;obtain⟨hkl,hlast⟩:=qc epl;rw[epl] at hG7 ⊢;rw[List.map_append] at hG7;have hak:as[k]?=some as[k]:=gEE hkl;refine pL (by simp) ?_;refine⟨_,rfl,_,rfl,ra,as.map V.int,rfl,.inr hra7,rfl,gf _,_,rfl,?_⟩;show if (inV (V.int i) (as.map V.int))=true then _ else _
       rw[kH];have fin:∀ (b:Bool),b=decide (i∈as)→∀ {R:Bool→Hp→Prop},(∀ H8,ak H7 H8→R (!b) H8)→vj (gl (tOp (yJ K) (cq 7) (v7 iC))) (gl (tOp (rIn K true) (cq 3) (cq 4))) [some v,some (.ref m),some (.ref M),some (.int i),some (.ref ra),some (.ref U),some (.int (gK kvs i)),some (.ref G)] H7 R:=by
        intro b hb R hR;refine⟨_,rfl,ef,fun Z2 hZ2=>?_⟩;have k8:=smu (o:=HO.lst []) hZ2;refine⟨G,Z2,_,rfl,rfl,SqL.of (k8 _ _ hG7),SqL.of pG,_,rfl,?_⟩;refine pL (by simp) ⟨_,rfl,_,rfl,ra,as.map V.int,rfl,.inr (k8.seqT hra7),rfl,gf _,_,rfl,?_⟩;show R (!inV (V.int i) (as.map V.int)) _;rw[kH,← hb];exact hR _ k8
       by_cases hin:i∈as
       · refine pL (by simpa using hin) ?_;refine⟨_,rfl,_,rfl,_,rfl,G,_,_,.int ((k:Nat):Int),rfl,rfl,SqL.of hG7,qP _ _,ra,_,_,.int as[k],rfl,rfl,hra7,pJ (by rw[gEM,hak];rfl),_,rfl,rfl,_,rfl,?_⟩;by_cases ek:as[k]=i
         · refine pK (by simp[ek]) ?_;refine fin true (by simpa using hin) fun H8 k8=>?_;exact pK (by decide) (next _ _ _ _ (S7.trans k8) (hlast (by rw[hak,ek])))
         · refine pL (by simp[ek]) ?_;exact pL rfl (q true _ SH fun c=>nomatch c)
       · refine pK (by simpa using hin) (pK (by decide) ?_);refine fin false (by simpa using hin) fun H8 k8=>?_;exact pL (by decide) (q true _ (SH.trans k8) fun c=>nomatch c)
   · rintro σ Hi ⟨sm,hok,x3,x4,x5,x6,x7,rfl⟩;refine kK _ _ ?_;refine q false Hi (sm3.trans sm) fun _ p hp=>hok p ?_;rw[hzl2,List.take_length];exact hp
end
end K12
namespace P10
open PySem L2 K12
theorem oK {h:Str} {sl:List Str} {ps:PDs} {d:PyData} (n:Nd d h sl ps) {is:List Int} (eb:bi h ps=is.map .int):cu (is.map .int) (fun i=>i) sl ps=ps:=by
 obtain⟨_,hmm,hshp,_⟩:=n;cases b5:bb h w5 with
 | true =>
  rcases w5S hmm b5 with rfl | rfl | ⟨rfl,b2⟩
  · obtain⟨p0,rfl,s0⟩:=K12.eA hshp;obtain⟨i,rfl⟩:=s0.2.1 (by decide +kernel);show [bA _ _ "meant" _]=_;rw[d9]
  · obtain⟨p0,p1,rfl,s0,_⟩:=K12.cb hshp;obtain⟨i,rfl⟩:=s0.2.1 (by decide +kernel);show [bA _ _ "meant" _,bA _ _ "one" _]=_;rw[d9,d8]
  · obtain⟨p0,p1,p2,rfl,s0,_,_⟩:=K12.eu hshp;obtain⟨i,rfl⟩:=s0.2.1 (by decide +kernel);unfold bi at eb;rw[if_pos b2] at eb;obtain rfl:is=[i]:=eC (is:=is) (js:=[i]) eb.symm;show [bA [.int i] _ "bound" _,bA _ _ "one" _,bA _ _ "one" _]=_;rw[jh,d8,d8]
 | false =>
  have nw:bb h w2=false:=by
   have:∀ p∈tbl,bb p.1 w5=false→bb p.1 w2=false:=by decide +kernel
   exact this _ hmm b5
  by_cases hf:h="fun"
  · subst hf;obtain rfl:=lL hmm;obtain⟨p0,p1,rfl,s0,_⟩:=K12.cb hshp;obtain⟨js,rfl,_⟩:=s0.2.2.2 rfl;unfold bi at eb;rw[nw,if_neg Bool.false_ne_true,if_pos rfl] at eb;obtain rfl:is=js:=eC (is:=is) (js:=js) eb.symm;show [bA _ _ "bounds" _,bA _ _ "one" _]=_;rw[gM,d8]
  · exact gD (Paired.length hshp) (mE hmm b5 hf)
theorem rH:∀ {n:Nat} {d:PyData},WFd n d→b7 (aY fun i=>i) n d=d:=by
 intro n
 induction n with
 | zero=>exact fun h=>h.elim
 | succ n ih =>
  intro d h;have h0:=h;obtain⟨hd,sl,ps,nd,_⟩:=h;obtain⟨is,eis,_,_⟩:=dz nd;have nt:=nd.turn fun i=>i;have e2:(bi hd ps).map (cI fun i=>i)=is.map PyData.int:=by rw[eis,List.map_map];rfl
  rw[e2,oK nd eis] at nt;have et:aY (fun i=>i) d=d:=nt.1.trans nd.eq.symm;show gJ ((ao d).map (b7 (aY fun i=>i) n)) (aY (fun i=>i) d)=d;rw[et,List.map_congr_left (g:=fun x=>x) (fun x hx=>ih (h0.kid hx)),List.map_id',nd.put];have al:lc sl ps ps:=by
   have z:=je (f:=fun x=>x) nd.shp;have e:List.zipWith (prt fun x=>x) sl ps=ps:=by
    have g:∀ {sl:List Str} {ps:PDs},Paired Shp sl ps→List.zipWith (prt fun x=>x) sl ps=ps:=by
     intro sl ps h
     induction h with
     | nil=>rfl
     | @cons s p sl ps a b ih =>
      rw[List.zipWith_cons_cons,ih];congr 1;unfold prt;by_cases h1:s="one"
      · rw[if_pos h1]
      · rw[if_neg h1];by_cases h2:s="many"
        · rw[if_pos h2];obtain⟨l,rfl⟩:=a.1 h2;rw[List.map_id'];rfl
        · rw[if_neg h2]
    exact g nd.shp
   rw[e] at z;exact z
  have z:=gL [] [] al;rw[List.nil_append,List.append_nil,← nd.kids] at z;rw[show (0:Nat)=([]:PDs).length from rfl,z];exact nd.eq.symm
def Rep (g:Int→Int) (as:List Int) (kvs:List (Key×V)):Prop:=(∀ x,(∀ a∈as,g a≠x)→gK kvs x=x)∧∀ (k:Nat) (a:Int),as[k]?=some a→(∀ (j:Nat) (b:Int),k<j→as[j]?=some b→g b≠g a)→gK kvs (g a)=a
theorem jA (kvs:List (Key×V)) (y i x:Int):gK (bS kvs (.inl y) (.int i)) x=if x=y then i else gK kvs x:=by
 unfold gK;rw[dl];by_cases e:x=y
 · rw[if_pos (by rw[e]),if_pos e]
 · rw[if_neg (fun c=>e (Sum.inl.inj c)),if_neg e]
theorem Rep.snoc {g:Int→Int} {as:List Int} {kvs:List (Key×V)} (h:Rep g as kvs) (i:Int):Rep g (as++[i]) (bS kvs (.inl (g i)) (.int i)):=by
 refine⟨fun x hx=>?_,fun k a hk hl=>?_⟩
 · rw[jA,if_neg (fun c=>hx i (by simp) c.symm)];exact h.1 x fun a ha=>hx a (List.mem_append_left _ ha)
 · rw[jA];by_cases hlt:k<as.length
   · rw[List.getElem?_append_left hlt] at hk;rw[if_neg (fun c=>hl as.length i hlt (by simp) c.symm)];refine h.2 k a hk fun j b hj hb=>hl j b hj ?_;rw[List.getElem?_append_left (gES.mp hb).1];exact hb
   · have hk2:=(gES.mp hk).1;rw[lAp,List.length_singleton] at hk2;obtain rfl:k=as.length:=by omega
     have:a=i:=by simpa using hk.symm
     rw[this,if_pos rfl]
theorem Rep.app {g:Int→Int}:∀ {is as:List Int} {kvs:List (Key×V)},Rep g as kvs→Rep g (as++is) (bD kvs (is.map g) is):=by
 intro is
 induction is with
 | nil=>intro as kvs h;rw[List.append_nil];exact h
 | cons i r ih =>
  intro as kvs h;have z:=ih (h.snoc i);rw[List.append_assoc] at z;exact z
theorem sK {n:Nat} {d x:PyData} {as:List Int} {k:Nat} (h:(ao d)[k]?=some x):∀ p∈ga n x (if k+1=(ao d).length then as++kJ d else as),p∈ga (n+1) d as:=fun p hp=>by
 refine List.mem_append_right _ (List.mem_flatten.mpr ⟨_,mGE (i:=k) ?_,hp⟩);rw[List.getElem?_mapIdx,h];rfl
theorem jB {n:Nat} {d x:PyData} {is:List Int} (eb:jM d=is.map .int) {k:Nat} (h:(ao d)[k]?=some x) {i:Int} (z:FrD n x i) (hi:k+1=(ao d).length→i∉is):FrD (n+1) d i :=
 .inr ⟨k,x,h,z,fun e c=>hi e (by rw[eb] at c;obtain⟨u,hu,e⟩:=List.mem_map.mp c;cases e;exact hu)⟩
theorem vF {g:Int→Int}:∀ {n:Nat} {d:PyData} {as:List Int} {kvs:List (Key×V)},WFd n d→Rep g as kvs→(∀ p∈ga n d as,OkP g p)→(∀ i,FrD n d i→i∉as→g i=i)→tL g n d kvs:=by
 intro n
 induction n with
 | zero=>exact fun _ _ _ _=>trivial
 | succ n ih =>
  intro d as kvs h rp ok fr;refine⟨fun i hi=>?_,fun is eb k x hx=>?_⟩
  · have hp:(i,as)∈ga (n+1) d as:=List.mem_append_left _ (by unfold eS;rw[hi];exact mSg.mpr rfl)
    rcases ok _ hp with z | ⟨k,z1,z2⟩
    · have e:g i=i:=fr i (.inl hi) fun c=>z i c rfl;have:=rp.1 (g i) z;rw[this,e]
    · exact rp.2 k i z1 z2
  · have eid:=jy eb;have okx:=fun p hp=>ok p (sK (n:=n) (as:=as) hx p hp);by_cases hl:k+1=(ao d).length
    · rw[if_pos hl] at okx ⊢;rw[eid] at okx;refine ih (h.kid (mGE hx)) rp.app okx fun i z c=>?_;rw[mAp] at c;exact fr i (jB eb hx z fun _ e=>c (.inr e)) fun e=>c (.inl e)
    · rw[if_neg hl] at okx ⊢;refine ih (h.kid (mGE hx)) rp okx fun i z c=>?_;exact fr i (jB eb hx z fun e=>absurd e hl) c
theorem rW (g:Int→Int):Rep g [] []:=⟨fun x _=>rfl,fun k a h=>by cases h⟩
theorem mO {p:Int→PyData→Int→Prop} (hp:∀ i x j,p i x j→i≤j):∀ {ks:PDs} {i j:Int},CnL p i ks j→i≤j∧∀ x∈ks,∃ i' j',i≤i'∧j'≤j∧p i' x j':=by
 intro ks
 induction ks with
 | nil=>intro i j h;cases (show j=i from h);exact⟨Int.le_refl _,fun x hx=>absurd hx nMN⟩
 | cons y r ih =>
  intro i j h;obtain⟨l,h1,h2⟩:=h;obtain⟨h3,h4⟩:=ih h2;have h5:=hp _ _ _ h1;refine⟨by omega,fun x hx=>?_⟩
  rcases List.mem_cons.mp hx with rfl | hx
  · exact⟨i,l,Int.le_refl _,h3,h1⟩
  · obtain⟨i',j',z1,z2,z3⟩:=h4 x hx;exact⟨i',j',by omega,z2,z3⟩
theorem ud:∀ {n:Nat} (i:Int) (d:PyData) (j:Int),CnD n i d j→i≤j:=by
 intro n
 induction n with
 | zero=>exact fun i d j h=>h.elim
 | succ n ih =>
  intro i d j h;obtain⟨k,_,h2⟩:=h;have:=(mO ih h2).1;omega
theorem wc:∀ {n:Nat} {d:PyData} {as:List Int} {i j:Int},CnD n i d j→∀ p∈ga n d as,(∀ a∈as,a∈p.2)∧(∀ a∈p.2,a∈as∨i≤a∧a<j)∧(p.1∈p.2∨FrD n d p.1):=by
 intro n
 induction n with
 | zero=>exact fun h=>h.elim
 | succ n ih =>
  intro d as i j h p hp;obtain⟨k,eb,h2⟩:=h;have eid:=jy eb
  rcases mAp.mp hp with hp | hp
  · unfold eS at hp;split at hp
    · rename_i i' e
      rw[mSg.mp hp];exact⟨fun a h=>h,fun a h=>.inl h,.inr (.inl e)⟩
    · exact absurd hp nMN
  · obtain⟨l,hl,hpl⟩:=List.mem_flatten.mp hp;obtain⟨q,hq⟩:=List.getElem?_of_mem hl;rw[List.getElem?_mapIdx] at hq;obtain⟨x,hx,rfl⟩:=oMS.mp hq;obtain⟨h3,h4⟩:=mO ud h2;obtain⟨i',j',z1,z2,z3⟩:=h4 x (mGE hx);obtain⟨y1,y2,y3⟩:=ih z3 p hpl;have hrg:∀ a∈rgI i k,i≤a∧a<i+((k:Nat):Int):=fun a ha=>by
     unfold rgI at ha;obtain⟨t,ht,rfl⟩:=List.mem_map.mp ha;have:=List.mem_range.mp ht;omega
    refine⟨fun a ha=>y1 a ?_,fun a ha=>?_,?_⟩
    · split
      · exact List.mem_append_left _ ha
      · exact ha
    · rcases y2 a ha with z | z
      · split at z
        · rcases mAp.mp z with z | z
          · exact .inl z
          · rw[eid] at z;have:=hrg a z;exact .inr (by omega)
        · exact .inl z
      · exact .inr (by omega)
    · rcases y3 with z | z
      · exact .inl z
      · by_cases hql:q+1=(ao d).length
        · by_cases hin:p.1∈rgI i k
          · exact .inl (y1 _ (by rw[if_pos hql,eid];exact List.mem_append_right _ hin))
          · exact .inr (jB eb hx z fun _=>hin)
        · exact .inr (jB eb hx z fun e=>absurd e hql)
theorem sQ {as:List Int} {i:Int} (h:i∈as):∃ k:Nat,as[k]?=some i∧∀ (j:Nat) (b:Int),k<j→as[j]?=some b→b≠i:=by
 induction as with
 | nil=>exact absurd h nMN
 | cons a r ih =>
  by_cases hr:i∈r
  · obtain⟨k,h1,h2⟩:=ih hr;refine⟨k+1,h1,fun j b hj hb=>?_⟩;cases j with
    | zero=>omega
    | succ j=>exact h2 j b (by omega) hb
  · rcases List.mem_cons.mp h with rfl | z
    · refine⟨0,rfl,fun j b hj hb=>?_⟩;cases j with
      | zero=>omega
      | succ j=>exact fun e=>hr (by rw[← e];exact mGE (show r[j]?=some b from hb))
    · exact absurd z hr
theorem qg {g:Int→Int} {n:Nat} {d:PyData} {c j:Int} (h:CnD n c d j) (h0:0≤c) (hj:j≤52) (hf:∀ i,FrD n d i→0≤i∧i<c) (hg:∀ a b,0≤a→a<52→0≤b→b<52→g a=g b→a=b):∀ p∈ga n d [],OkP g p:=fun p hp=>by
 obtain⟨_,y2,y3⟩:=wc h p hp;have hcj:=ud _ _ _ h;have ha:∀ a∈p.2,0≤a∧a<52:=fun a z=>by
  rcases y2 a z with z | z
  · exact absurd z nMN
  · omega
 have hi:0≤p.1∧p.1<52:=by
  rcases y3 with z | z
  · exact ha _ z
  · have:=hf _ z;omega
 by_cases hin:p.1∈p.2
 · obtain⟨k,h1,h2⟩:=sQ hin;refine .inr ⟨k,h1,fun j b hj hb e=>?_⟩;have hb':=ha b (mGE hb);exact h2 j b hj hb (hg b p.1 hb'.1 hb'.2 hi.1 hi.2 e)
 · refine .inl fun a haa e=>hin ?_;have ha':=ha a haa;rw[← hg a p.1 ha'.1 ha'.2 hi.1 hi.2 e];exact haa
end P10
namespace K12
open PySem L2 P10
section
variable {P:Program} {w:World} {K:Fg} {mg:SOV} {base:Heap}
abbrev sAf:Stmt:=top 40
abbrev nAf:List Str:=["_law_e","_law_found","_law_part"]
def dI (is:List Int):PyData:=.tuple (is.map .int)
inductive uP (K:Fg) (n:Nat) (vs:List V) (H:Hp) (Q:VK):Prop
  | mk (v:V) (d:PyData) (g0_:vs=[v]) (g1_:TD K H v d) (g2_:WFd n d) (g3_:(ca n d).length≤900000) (g4_:∀ L H' zs (fs:List (List Int)),ak H H'→H L=none→H' L=some (.lst zs)→TDs K H' zs (fs.map dI)→(∀ is∈fs,is.length≤3)→zs.length≤(ca n d).length→Q (.ref L) H'):uP K n vs H Q
def oY (K:Fg) (n:Nat):Sp:=fun vs H Q _=>uP K n vs H Q
theorem vz:aB nAf ["_law_e"] (a7 sAf):=fsM
theorem zK {n:Nat} (D:Def K mg "_law_all_funs" sAf) (T:Blt mg) (bZ:Fn P w K mg base "_law_parts" 1 ["_law_e"] (oV K)) (d6:Fn P w K mg base "_law_all_funs" (n+2) ["_law_e"] (oY K n)):Fn P w K mg base "_law_all_funs" (n+3) ["_law_e"] (oY K (n+1)):=by
 refine D.fn vz (fun vs H Q E h=>?_) (fun _ _ _ _ _ _ us hl=>by obtain⟨a,rfl⟩:=eK hl;rfl) (fun f cdv A outer s' H vs Q E hr h=>?_)
 · obtain⟨v,d,rfl,_⟩:=h;rfl
 · obtain⟨v,d,rfl,td,wf,hsz,q⟩:=h;have nd:=vz.nd;have hz0:(1000000:Nat)<sizeLine:=by decide
   have r1:cU 1 (A.deeper (PyProof.Rows.envOfC "_law_all_funs" (a7 sAf) s'.heap.objs.size f cdv)):=hr.mono (by omega);refine⟨_,(pE (pN (i:=1) nd rfl (Or.inl rfl) (ag pC))
 (pE (aN (pO aV (aq aF (pv 0) pH (fun _ _=>rfl)) pD (pP _)) (pI (am (aX (pv 1) (pA (aq aF (pv 0) pH (fun _ _=>rfl)) pC)))) aE)
 (pE (bp PassesOwn.never rfl (bu (aa bZ r1 rfl (pA (pv 0) pC))) (ae (i:=2) nd rfl (Or.inl rfl))
 (pI (pN (i:=1) nd rfl (Or.inl rfl) (aC fL (pv 1) (aa d6 hr rfl (pA (pv 2) pC))))))
 (pI (az (pv 1)))))),?_⟩
   dsimp only[bJ,bN,bM];have wf0:=wf;obtain⟨hd,sl,ps,nde,hkid⟩:=wf;have nde0:=nde;obtain⟨ed,hm,hshp,hfew⟩:=nde0;obtain⟨a,xs,rfl,ha,hx⟩:=(show TD K H v (.tuple (.str hd::ps)) from ed▸td).tup_of;obtain⟨x0,xr,rfl,hx0,hxr⟩:∃ x0 xr,xs=x0::xr∧TD K H x0 (.str hd)∧TDs K H xr ps:=by
    cases hx with
    | cons p q=>exact⟨_,_,rfl,p,q⟩
   obtain rfl:=hx0.str_of;have at0:∀ {x:V} {r:List V},atI (x::r) 0=some x:=fun {x r}=>pJ (j:=0) rfl;have at1:∀ {x y:V} {r:List V},atI (x::y::r) 1=some y:=fun {x y r}=>pJ (j:=1) rfl;have hkl:(ao d).length≤8:=by rw[nde.kids];exact hfew
   have hpre:(ca (n+1) d).length=((ao d).map fun x=>(ca n x).length).sum+1:=by
    show (((ao d).map (ca n)).flatten).length+1=_;rw[List.length_flatten,List.map_map];rfl
   refine a0 fun rD iB=>?_;refine⟨ef,fun F hF=>?_⟩;refine iB _ _ (a0 fun mF iq=>?_);have k1:=smu (o:=HO.lst []) hF;have hF1:(upd H F (.lst [])) F=some (.lst []):=pG;generalize upd H F (.lst [])=H1 at k1 hF1 ⊢;have d7:∀ (H2:Hp) (z0:List V) (f0:List (List Int)),ak H H2→H2 F=some (.lst z0)→TDs K H2 z0 (f0.map dI)→(∀ is∈f0,is.length≤3)→z0.length≤1→mF [some (.ref a),some (.ref F),none] H2:=by
    intro H2 z0 f0 sm2 hF2 tz0 hf0 hl0;refine iq _ _ (a0 fun sI kK=>?_);refine⟨_,rfl,_,d,n,rfl,td.same sm2,wf0,fun L H3 ys k3 hL hL3 hys=>?_⟩;have hyl:=hys.length;refine⟨L,rfl,⟨_,SqL.of hL3⟩,?_⟩;show aw _ _ _ _ _ _;refine aw.byN (aK (xs:=ys)) (fun k σ Hi=>ak H Hi∧Hi L=some (.lst ys)∧TDs K Hi ys (ao d)∧∃ (G:Addr) (zk:List V) (fk:List (List Int)) (x2:Option V),σ=[some (.ref a),some (.ref G),x2]∧H G=none∧Hi G=some (.lst zk)∧TDs K Hi zk (fk.map dI)∧(∀ is∈fk,is.length≤3)∧zk.length≤1+(((ao d).take k).map fun x=>(ca n x).length).sum)
     ⟨sm2.trans k3,hL3,hys,F,z0,f0,_,rfl,hF,k3 _ _ hF2,tz0.same k3,hf0,by simpa using hl0⟩ (fun k σ Hi _ z=>SqL.of z.2.1) ?_ ?_
    · rintro k y σ Hi N_ B_ hN_ hB_ hy ⟨sm,hLi,hyi,G,zk,fk,x2,rfl,hGn,hGi,tzk,hfk,hlk⟩;obtain⟨x,hxk,tx⟩:=hyi.get hy;have wfx:=wf0.kid (mGE hxk);obtain⟨st1,st2⟩:=jY (f:=fun x=>(ca n x).length) hxk;refine⟨_,rfl,_,rfl,y,x,rfl,tx,wfx,by omega,fun L' H6 z6 f6 k6 hLn hL6 t6 hf6 hl6=>?_⟩;refine⟨G,L',_,_,rfl,rfl,SqL.of (k6 _ _ hGi),SqL.of hL6,by omega,fun p hp=>?_⟩;have k7:=smu (o:=HO.lst (zk++z6)) hp;have K7:=k6.trans k7;have hpn:H p=none:=by
       cases e:H p with
       | none=>rfl
       | some o=>rw[k6 _ _ (sm _ _ e)] at hp;cases hp
      refine hN_ _ _ ⟨sm.trans K7,K7 _ _ hLi,hyi.same K7,p,zk++z6,fk++f6,_,rfl,hpn,pG,?_,fun is his=>(mAp.mp his).elim (hfk is) (hf6 is),by rw[lAp];omega⟩;rw[List.map_append];exact (tzk.same K7).app (t6.same k7)
    · rintro σ Hi ⟨sm,hLi,hyi,G,zk,fk,x2,rfl,hGn,hGi,tzk,hfk,hlk⟩;rw[hyl,List.take_length] at hlk;exact kK _ _ ⟨_,rfl,q G Hi zk fk sm hGn hGi tzk hfk (by omega)⟩
   refine⟨_,rfl,a,_,0,.str hd,rfl,rfl,k1.seqT ha,at0,rfl,_,rfl,?_⟩;by_cases b2:hd="fun"
   · subst b2;refine pL (by simp) ?_;obtain rfl:=lL hm;obtain⟨p0,p1,rfl,s0,_⟩:=cb hshp;obtain⟨is,rfl,hl3⟩:=s0.2.2.2 rfl;obtain⟨y0,y1,rfl,e0,_⟩:=ln hxr;refine⟨_,rfl,.inl ⟨rfl,_,SqL.of hF1⟩,_,rfl,a,_,1,_,rfl,rfl,k1.seqT ha,at1,F,_,_,rfl,rfl,hF1,by show 0<sizeLine;omega,?_⟩;exact d7 _ [y0] [is] (aG k1 hF) pG (.cons ((e0.same k1).tk (bC (.inr ⟨_,hF1⟩))) .nil) (fun js hj=>by rw[mSg.mp hj];exact hl3) (Nat.le_refl _)
   · refine pK (by simpa using b2) ?_;exact d7 H1 [] [] k1 hF1 .nil (fun _ z=>absurd z nMN) (Nat.zero_le _)
theorem w4 (D:Def K mg "_law_all_funs" sAf):Fn P w K mg base "_law_all_funs" 2 ["_law_e"] (oY K 0):=by
 refine D.fn vz (fun vs H Q E h=>?_) (fun _ _ _ _ _ _ us hl=>by obtain⟨a,rfl⟩:=eK hl;rfl) (fun f cdv A outer s' H vs Q E hr h=>?_)
 · obtain⟨v,d,rfl,_⟩:=h;rfl
 · obtain⟨v,d,rfl,td,wf,_⟩:=h;exact wf.elim
theorem vZ (D:Def K mg "_law_all_funs" sAf) (T:Blt mg) (bZ:Fn P w K mg base "_law_parts" 1 ["_law_e"] (oV K)) (n:Nat):Fn P w K mg base "_law_all_funs" (n+2) ["_law_e"] (oY K n):=by
 induction n with
 | zero=>exact w4 D
 | succ n ih=>exact zK D T bZ ih
end
end K12
namespace L2
open PySem PySem.Spec PyProof.Rows
def Ris (xs:Array Nat):Prop:=∀ i j,i<j→j<xs.size→xs.getD i 0<xs.getD j 0
theorem qx (xs:Array Nat) (i a b:Nat) (h:i<xs.size):xs.getD i a=xs.getD i b:=by simp[Array.getD,h]
theorem qM {xs:Array Nat} {j:Nat} (R:Ris xs):∀ (f lo hi:Nat),hi-lo≤f→lo≤hi→hi≤xs.size→(∀ i,i<lo→xs.getD i 0<j)→(∀ i,hi≤i→i<xs.size→j≤xs.getD i 0) →
 (∀ i,i<SetTable.below.go xs j f lo hi→xs.getD i 0<j)∧(∀ i,SetTable.below.go xs j f lo hi≤i→i<xs.size→j≤xs.getD i 0)∧SetTable.below.go xs j f lo hi≤xs.size:=by
 intro f
 induction f with
 | zero =>
  intro lo hi h1 h2 h3 h4 h5;obtain rfl:lo=hi:=by omega
  exact⟨h4,h5,h3⟩
 | succ f ih =>
  intro lo hi h1 h2 h3 h4 h5;show (∀ i,i<(if lo<hi then _ else _)→_)∧(∀ i,(if lo<hi then _ else _)≤i→_)∧(if lo<hi then _ else _)≤_;by_cases hl:lo<hi
  · rw[if_pos hl];have hm:(lo+hi) / 2<hi:=by omega
    have hm2:lo≤(lo+hi) / 2:=by omega
    show (∀ i,i<(if xs.getD ((lo+hi) / 2) j<j then _ else _)→_)∧(∀ i,(if xs.getD ((lo+hi) / 2) j<j then _ else _)≤i→_)∧(if xs.getD ((lo+hi) / 2) j<j then _ else _)≤_;rw[qx xs _ j 0 (by omega)];by_cases hc:xs.getD ((lo+hi) / 2) 0<j
    · rw[if_pos hc];refine ih _ _ (by omega) (by omega) h3 (fun i hi'=>?_) h5;by_cases e:i=(lo+hi) / 2
      · rw[e];exact hc
      · exact Nat.lt_trans (R i ((lo+hi) / 2) (by omega) (by omega)) hc
    · rw[if_neg hc];refine ih _ _ (by omega) (by omega) (by omega) h4 fun i hi' hs=>?_;by_cases e:i=(lo+hi) / 2
      · rw[e];omega
      · have:=R ((lo+hi) / 2) i (by omega) hs;omega
  · rw[if_neg hl];obtain rfl:lo=hi:=by omega
    exact⟨h4,h5,h3⟩
theorem qL {xs:Array Nat} (R:Ris xs) (j:Nat):(∀ i,i<SetTable.below xs j→xs.getD i 0<j)∧(∀ i,SetTable.below xs j≤i→i<xs.size→j≤xs.getD i 0)∧SetTable.below xs j≤xs.size :=
 qM R xs.size 0 xs.size (by omega) (Nat.zero_le _) (Nat.le_refl _) (fun i h=>absurd h (Nat.not_lt_zero _)) fun i h1 h2=>absurd h2 (by omega)
theorem kg {xs:Array Nat}:Ris xs↔xs.toList.Pairwise (·<·):=by
 rw[List.pairwise_iff_getElem];constructor
 · intro h i j hi hj hij;have:=h i j hij (by simpa using hj)
   simpa [Array.getD,show i<xs.size by simpa using hi,show j<xs.size by simpa using hj] using this
 · intro h i j hij hj;have:=h i j (by rw[Array.length_toList];omega) (by rw[Array.length_toList];exact hj) hij
   simpa [Array.getD,show i<xs.size by omega,hj] using this
theorem rV {xs:Array Nat} (R:Ris xs) {j:Nat} (hj:xs[SetTable.below xs j]?≠some j):Ris (SetTable.insertAt xs (SetTable.below xs j) j):=by
 obtain⟨h1,h2,h3⟩:=qL R j;generalize SetTable.below xs j=p at hj h1 h2 h3;rw[kg] at R ⊢;have e:(SetTable.insertAt xs p j).toList=xs.toList.take p++j::xs.toList.drop p:=by
  unfold SetTable.insertAt;simp[Array.toList_extract];rw[List.take_of_length_le (by simp)]
 rw[e,List.pairwise_append];have gt:∀ y∈xs.toList.drop p,j<y:=fun y hy=>by
  obtain⟨k,hk,rfl⟩:=List.getElem_of_mem hy;rw[List.getElem_drop];rw[List.length_drop,Array.length_toList] at hk;have hb:p+k<xs.size:=by omega
  have g:=h2 (p+k) (by omega) hb;have e1:xs.getD (p+k) 0=xs.toList[p+k]'(by rw[Array.length_toList];exact hb):=by simp[Array.getD,hb]
  rw[e1] at g;cases k with
  | succ k =>
   have:=List.pairwise_iff_getElem.mp R p (p+(k+1)) (by rw[Array.length_toList];omega) (by rw[Array.length_toList];exact hb) (by omega);have g0:=h2 p (Nat.le_refl _) (by omega);have e0:xs.getD p 0=xs.toList[p]'(by rw[Array.length_toList];omega):=by simp[Array.getD,show p<xs.size by omega]
   rw[e0] at g0;omega
  | zero =>
   refine Nat.lt_of_le_of_ne g fun c=>hj ?_;rw[Array.getElem?_eq_getElem (by simpa using hb)];have c':j=xs.toList[p]'(by rw[Array.length_toList];simpa using hb):=c;rw[Array.getElem_toList] at c';rw[c']
 refine⟨R.take,List.pairwise_cons.mpr ⟨gt,R.drop⟩,fun x hx y hy=>?_⟩;have lx:x<j:=by
  obtain⟨k,hk,rfl⟩:=List.getElem_of_mem hx;rw[List.getElem_take];rw[lTk,Array.length_toList] at hk;have hb:k<xs.size:=by omega
  have g:=h1 k (by omega);have e1:xs.getD k 0=xs.toList[k]'(by rw[Array.length_toList];exact hb):=by simp[Array.getD,hb]
  rw[e1] at g;exact g
 rcases List.mem_cons.mp hy with rfl | hy
 · exact lx
 · exact Nat.lt_trans lx (gt y hy)
def RI (t:SetTable):Prop:=Ris t.place∧t.dummies=#[]
theorem j7 (j:Nat):SetTable.has #[] j=false:=rfl
theorem kz {t:SetTable} (h:t.dummies=#[]) {f:Nat→Int} {k:Int}:∀ (n:Nat) (p:SetTable.Probe) (j:Nat) (d:Option Nat),SetTable.probe.go t f k n p=some (.empty j d)→t.place[SetTable.below t.place j]?≠some j∧d=p.dummy∨(∃ i nx,SetTable.probe.go t f k n p=some (.candidate j i nx)):=by
 intro n
 induction n with
 | zero=>intro p j d z;cases z
 | succ n ih =>
  intro p j d z;unfold SetTable.probe.go at z;have ns:∀ q,t.slot q≠.dummy:=fun q=>by
   unfold SetTable.slot;dsimp only;split
   · intro c;cases c
   · rw[h,j7,if_neg Bool.false_ne_true];intro c;cases c
  split at z
  · rename_i hs
    cases z;refine .inl ⟨fun c=>?_,rfl⟩;unfold SetTable.slot at hs;dsimp only at hs;rw[if_pos (by rw[c];exact beq_self_eq_true _)] at hs;cases hs
  · rename_i hs;exact absurd hs (ns _)
  · split at z
    · cases z
    · have r:=ih _ j d z
      rcases r with r | ⟨i,nx,r⟩
      · refine .inl ⟨r.1,r.2.trans ?_⟩;unfold SetTable.advance;split <;> rfl
      · rw[r] at z;cases z
theorem vE {t:SetTable} (R:RI t) (es:Array (Int×Value)) (k:Int) (x:Value):RI (layNew t es k x).2.1:=by
 have stand:∀ (t:SetTable) n,RI (t.standIn n):=fun t n=>⟨fun i j hij hj=>by
   have hj':j<n:=by simpa [SetTable.standIn] using hj
   simp[SetTable.standIn,Array.getD,show i<n by omega,hj',hij],rfl⟩
 unfold layNew;split
 · rename_i slot dm e
   have hs:t.place[SetTable.below t.place slot]?≠some slot:=by
    unfold SetTable.freeSlot at e;split at e
    · rename_i j d hp
      unfold SetTable.probe at hp
      rcases kz R.2 _ _ _ _ hp with ⟨h1,h2⟩ | ⟨i,nx,h3⟩
      · rw[h2] at e;have e':=Option.some.inj e;have e1:(none:Option Nat).getD j=slot:=congrArg Prod.fst e';rw[← e1];exact h1
      · rw[h3] at hp;cases hp
    · cases e
   have ri1:RI (t.put slot).1:=⟨rV R.1 hs,by
     show (if SetTable.has t.dummies slot=true then _ else _)=#[];rw[R.2,j7,if_neg Bool.false_ne_true]⟩
   show RI ((t.put slot).1.orStandIn _);unfold SetTable.orStandIn;split
   · exact ri1
   · exact stand _ _
 · exact stand _ _
theorem px {t:SetTable} (R:RI t) (es:Array (Int×Value)) (k:Nat):RI (relayAll t es k).2.1:=by
 have stand:∀ (t:SetTable) n,RI (t.standIn n):=fun t n=>⟨fun i j hij hj=>by
   have hj':j<n:=by simpa [SetTable.standIn] using hj
   simp[SetTable.standIn,Array.getD,show i<n by omega,hj',hij],rfl⟩
 unfold relayAll;cases e:t.relaid (es.map (·.1)) k with
 | none=>exact stand _ _
 | some y =>
  obtain⟨t',od⟩:=y;dsimp only;split
  · unfold SetTable.relaid SetTable.laid at e;cases e2:SetTable.layClean (SetTable.sizeAbove k-1) (es.map (·.1)) with
    | none=>rw[e2] at e;cases e
    | some ow =>
     rw[e2] at e;cases e;refine⟨?_,rfl⟩;rw[kg];show ((List.filterMap _ _).map _).Pairwise (·<·);rw[List.map_filterMap,List.pairwise_filterMap];refine List.Pairwise.imp_of_mem (fun {a b} _ _ hab=>?_) List.pairwise_lt_range;intro u hu v hv;simp only[oMS] at hu hv;obtain⟨_,⟨_,_,rfl⟩,rfl⟩:=hu;obtain⟨_,⟨_,_,rfl⟩,rfl⟩:=hv;exact hab
  · exact stand _ _
theorem w6:∀ {l B:List Int},l.Nodup→(∀ x∈l,x∈B)→l.length≤B.length:=by
 intro l
 induction l with
 | nil=>intro B _ _;exact Nat.zero_le _
 | cons x r ih =>
  intro B nd h;have hx:=h x mCS;obtain⟨n1,n2⟩:=List.nodup_cons.mp nd;have:=ih (B:=B.erase x) n2 fun y hy=>(List.mem_erase_of_ne fun e=>n1 (by rw[← e];exact hy)).mpr (h y (mCM _ hy));rw[List.length_erase_of_mem hx] at this;have:0<B.length:=List.length_pos_of_mem hx;rw[List.length_cons];omega
def kI:Value→Int
  | .int x _=>x
  | _=>0
theorem jZ (t:SetTable) (n:Nat):(t.orStandIn n).led=t.led∧(t.plain=false→(t.orStandIn n).plain=false):=by
 unfold SetTable.orStandIn;split
 · exact⟨rfl,id⟩
 · exact⟨rfl,fun _=>rfl⟩
theorem nU (t:SetTable) (es:Array (Int×Value)) (k:Int) (x:Value):(layNew t es k x).2.1.led=t.led∧(t.plain=false→(layNew t es k x).2.1.plain=false):=by
 unfold layNew;split
 · rename_i slot dm _
   exact jZ (t.put slot).1 _
 · exact⟨rfl,fun _=>rfl⟩
theorem lG {m f v:Nat} {l p:Bool} {hs:Array Int} {t:SetTable} {od:Array Nat} (h:SetTable.laid m f v l p hs=some (t,od)):t.led=l∧t.plain=p:=by
 unfold SetTable.laid at h;cases e:SetTable.layClean m hs with
 | none=>rw[e] at h;cases h
 | some ow=>rw[e] at h;cases h;exact⟨rfl,rfl⟩
theorem kj (t:SetTable) (es:Array (Int×Value)) (k:Nat):(relayAll t es k).2.1.led=t.led∧(t.plain=false→(relayAll t es k).2.1.plain=false):=by
 unfold relayAll;cases e:t.relaid (es.map (·.1)) k with
 | none=>exact⟨rfl,fun _=>rfl⟩
 | some y =>
  obtain⟨t',od⟩:=y;obtain⟨a,b⟩:=lG (show SetTable.laid _ _ _ _ _ _=some (t',od) from e);dsimp only;split
  · exact⟨a,fun z=>b.trans z⟩
  · exact⟨rfl,fun _=>rfl⟩
structure fA (prog:Program) (w:World) (h:Heap) (a:Addr) (ss:List Int) (n:Nat) (o:Obj) (es:Array (Int×Value)) (ep:Nat) (t:SetTable):Prop where
  at_:h.get? a=some o
  ex:o.ExactSet
  dt:o.data=.set es ep t
  el:ElemsOf (ax prog w) es.toList
  sz:es.size<64
  ft:t.fits es.size=true
  ld:t.led=!(w.params.followText "set-order")
  pl:RI t
  st:∀ e∈es.toList,∃ x u,e.2=.int x u∧x∈ss
  nd:(es.toList.map fun e=>kI e.2).Nodup
  al:∀ x∈ss.take n,∃ e∈es.toList,kI e.2=x
section
variable {prog:Program} {w:World} {A:Around} {E:VSP} {s:Shared} {a:Addr} {ss B:List Int} {n:Nat} {o:Obj} {es:Array (Int×Value)} {ep:Nat} {t:SetTable}
theorem fA.of_same {h h':Heap} (S:fA prog w h a ss n o es ep t) (e:h'.get? a=some o):fA prog w h' a ss n o es ep t:=⟨e,S.ex,S.dt,S.el,S.sz,S.ft,S.ld,S.pl,S.st,S.nd,S.al⟩
theorem isK (x:Int) (u:Tok):(ax prog w).is (.inl x) (.int x u)=true:=by
 show (x==x)=true;simp
theorem fA.store {es':Array (Int×Value)} {t':SetTable} {m:Nat} {h:Heap} (S:fA prog w h a ss n o es ep t) (el:ElemsOf (ax prog w) es'.toList) (sz:es'.size<64) (ft:t'.fits es'.size=true) (ld:t'.led=t.led) (pl:RI t')
 (st:∀ e∈es'.toList,∃ x u,e.2=.int x u∧x∈ss) (nd:(es'.toList.map fun e=>kI e.2).Nodup) (al:∀ x∈ss.take m,∃ e∈es'.toList,kI e.2=x) :
 fA prog w (h.update a (Obj.putSet es' t')) a ss m {o with data:=.set es' (ep+1) t'} es' (ep+1) t':=by
 have hg:=Heap.get?_update_self (Obj.putSet es' t') S.at_ (by rw[putSet_of es' t' S.dt];rfl);rw[putSet_of es' t' S.dt] at hg;exact⟨hg,S.ex,rfl,el,sz,ft,ld.trans S.ld,pl,st,nd,al⟩
theorem fA.add {x:Int} {u:Tok} {Q:Bool→Shared→Prop} (S:fA prog w s.heap a ss n o es ep t) (hx':ss[n]?=some x) (hB:∀ x∈ss,x∈B) (hB6:B.length<64)
 (h:∀ (b:Bool) h' o' es' ep' t',Heap.SameBut a s.heap h'→fA prog w h' a ss (n+1) o' es' ep' t'→Q b {s with heap:=h'}) :
 wpAny (model prog w) A (setAddHashed a (.int x u) ((ax prog w).hash (.inl x))) Q E s:=by
 have hlt:es.size<scanBound:=Nat.lt_trans S.sz (by decide);have hx:=mGE hx';have htk:∀ y∈ss.take (n+1),y∈ss.take n∨y=x:=fun y hy=>by rw[tAO,hx'] at hy;rcases mAp.mp hy with z | z;exact .inl z;exact .inr (mSg.mp z)
 have hgw:∀ (b:Bool) {s1:Shared} {Q':Unit→Shared→Prop},Q' () s1→wpAny (model prog w) A (match b with | true=>rule "set.scan.the-table-gave-way" | false=>pure ()) Q' E s1 :=
  fun b s1 Q' z=>by cases b <;> first | exact wP z | exact wpAny_rule z
 unfold setAddHashed setAddHashedIn;refine wpAny_holding (wB (wpAny_setState_of S.at_ S.dt S.ft ?_));dsimp only;rw[byScan_of (knd:=ax prog w) (x:=.int x u) rfl hlt S.el];simp only[↓reduceIte];unfold setAddByScan;refine wB (wB (wpAny_rule (wB (wpAny_setScan_of (knd:=ax prog w) (k:=.inl x) (isK x u) S.at_ S.dt S.ft S.el ?_))));cases hr:List.findIdx? (fun e=>(ax prog w).is (.inl x) e.2) es.toList with
 | some j =>
  dsimp only;refine wP (wP ?_);obtain⟨hj1,hj2,_⟩:=List.findIdx?_eq_some_iff_getElem.mp hr;refine h false s.heap o es ep t (Heap.SameBut.refl a s.heap) ⟨S.at_,S.ex,S.dt,S.el,S.sz,S.ft,S.ld,S.pl,S.st,S.nd,fun y hy=>?_⟩
  rcases htk y hy with z | rfl
  · exact S.al y z
  · have hm:=List.getElem_mem hj1;obtain⟨y',v,ev,_⟩:=S.st _ hm;refine⟨_,hm,?_⟩;rw[ev] at hj2 ⊢;have q:(y'==y)=true:=hj2;exact eq_of_beq q
 | none =>
  dsimp only;have hnot:=List.findIdx?_eq_none_iff.mp hr;have pm:=layNew_perm t es ((ax prog w).hash (.inl x)) (.int x u);have ft1:=layNew_fits t es ((ax prog w).hash (.inl x)) (.int x u);have fl1:=(nU t es ((ax prog w).hash (.inl x)) (.int x u)).1;have fl2:=vE S.pl es ((ax prog w).hash (.inl x)) (.int x u);generalize layNew t es ((ax prog w).hash (.inl x)) (.int x u)=L at pm ft1 fl1 fl2 ⊢;obtain⟨es1,t1,dm,gv⟩:=L;dsimp only at pm ft1 fl1 fl2 ⊢;rw[Array.toList_push] at pm;have el1:ElemsOf (ax prog w) es1.toList:=(S.el.push (isK x u) rfl).perm pm;have st1:∀ e∈es1.toList,∃ y v,e.2=.int y v∧y∈ss:=fun e he=>by
   rcases mAp.mp (pm.mem_iff.mp he) with he | he
   · exact S.st e he
   · rw[mSg.mp he];exact⟨x,u,rfl,hx⟩
  have nd1:(es1.toList.map fun e=>kI e.2).Nodup:=by
   rw[(pm.map fun e=>kI e.2).nodup_iff,List.map_append,List.nodup_append];refine⟨S.nd,by simp,fun y hy z hz=>?_⟩;obtain⟨e,he,rfl⟩:=List.mem_map.mp hy;rw[List.mem_map] at hz;obtain⟨e2,he2,rfl⟩:=hz;rw[mSg.mp he2];intro q;obtain⟨y,v,ev,_⟩:=S.st e he;have hb:=hnot e he;rw[ev] at hb q;have q':y=x:=q;rw[q',isK x v] at hb;cases hb
  have al1:∀ y∈ss.take (n+1),∃ e∈es1.toList,kI e.2=y:=fun y hy=>by
   rcases htk y hy with z | rfl
   · obtain⟨e,he,q⟩:=S.al y z;exact⟨e,pm.mem_iff.mpr (List.mem_append_left _ he),q⟩
   · exact⟨_,pm.mem_iff.mpr (List.mem_append_right _ (mSg.mpr rfl)),rfl⟩
  have z1:es1.size<64:=by
   have:=w6 nd1 fun y hy=>by
    obtain⟨e,he,rfl⟩:=List.mem_map.mp hy;obtain⟨y,v,ev,hy'⟩:=st1 e he;rw[ev];exact hB y hy'
   rw[lMp,Array.length_toList] at this;omega
  have hl1:es1.size<scanBound:=Nat.lt_trans z1 (by decide);have fin:∀ (t2:SetTable) {Q2:Option Bool→Shared→Prop},t2.fits es1.size=true→t2.led=t.led→RI t2→(∀ h' o' es' ep' t',Heap.SameBut a s.heap h'→fA prog w h' a ss (n+1) o' es' ep' t'→Q2 (some true) {s with heap:=h'}) →
   wpAny (model prog w) A (do
     storeSet a es1 t2
     if (!dm&&t2.tooFull)=true then do
       (match (relayAll t2 es1 (SetTable.grown es1.size)).2.2 with | true=>rule "set.scan.the-table-gave-way" | false=>pure ())
       storeSet a (relayAll t2 es1 (SetTable.grown es1.size)).1 (relayAll t2 es1 (SetTable.grown es1.size)).2.1
       pure (some true)
     else pure (some true)) Q2 E s:=by
   intro t2 Q2 f2 l2 p2 k2;have S1:=S.store el1 z1 f2 l2 p2 st1 nd1 al1;refine wB (wpAny_storeSet_of S.at_ S.dt ?_ (fits_of_scanBound hl1));split
   · have pm2:=relayAll_perm t2 es1 (SetTable.grown es1.size);have ft2:=relayAll_fits t2 es1 (SetTable.grown es1.size);have g1:=(kj t2 es1 (SetTable.grown es1.size)).1;have g2:=px p2 es1 (SetTable.grown es1.size);generalize relayAll t2 es1 (SetTable.grown es1.size)=R at pm2 ft2 g1 g2 ⊢;obtain⟨es2,t3,gv2⟩:=R;dsimp only at pm2 ft2 g1 g2 ⊢;have z2:es2.size<64:=by rw[← Array.length_toList,pm2.length_eq,Array.length_toList];exact z1
     refine wB (hgw _ (wB (wpAny_storeSet_of S1.at_ rfl (wP ?_) (fits_of_scanBound (Nat.lt_trans z2 (by decide))))));exact k2 _ _ _ _ _ ((Heap.SameBut.update s.heap a _).trans (Heap.SameBut.update _ a _)) (S1.store (el1.perm pm2) z2 ft2 g1 g2 (fun e he=>st1 e (pm2.mem_iff.mp he)) ((pm2.map fun e=>kI e.2).nodup_iff.mpr nd1) fun y hy=>by obtain⟨e,he,q⟩:=al1 y hy;exact⟨e,pm2.mem_iff.mpr he,q⟩)
   · exact wP (k2 _ _ _ _ _ (Heap.SameBut.update s.heap a _) S1)
  refine wB (hgw _ ?_);by_cases hp:t1.plain=true
  · rw[if_pos hp,hashByValue_scannable 8 (show (Value.int x u).scannable=true from rfl)];refine wB (wP ?_);exact fin t1 ft1 fl1 fl2 fun h' o' es' ep' t' sb S'=>wP (h true h' o' es' ep' t' sb S')
  · rw[if_neg hp];refine wB (wP ?_);exact fin t1 ft1 fl1 fl2 fun h' o' es' ep' t' sb S'=>wP (h true h' o' es' ep' t' sb S')
end
section
variable {prog:Program} {w:World} {A:Around} {R:Result→Shared→Prop} {I:Addr} {fp wr:List Addr} {G:Array GenState→Array GenState→Prop} {n:Nat} {P:Nat→Value→Prop} {St:Nat→Shared→Prop} {ss B:List Int}
theorem oZ (W:WalksS prog w A.in1 I fp wr G n P St) (S:Addr) (hSf:S∉fp) (hv:∀ i v,P i v→∃ x u,v=Value.int x u∧ss[i]?=some x) (hB:∀ x∈ss,x∈B) (hB6:B.length<64) :
 ∀ (k i:Nat) (s:Shared) (o:Obj) (es:Array (Int×Value)) (ep:Nat) (t:SetTable),n-i=k→i≤n→St i s→fA prog w s.heap S ss i o es ep t →
  (∀ s' o' es' ep' t',Moved (S::wr) G s s'→fA prog w s'.heap S ss n o' es' ep' t'→R (.ok (.ret .none)) s') →
  codeAny (model prog w) A (.builtin "set.update.loop" ⟨[.ref S,.ref I],[]⟩) R s:=by
 have nw:S∉wr:=fun z=>hSf (W.sub _ z);have sub:∀ b∈wr,b∈S::wr:=fun b z=>mCM _ z;intro k
 induction k with
 | zero =>
  intro i s o es ep t hk hi st SS hR;obtain rfl:i=n:=by omega
  refine codeAny_builtin PyProof.Rows.F.entry_set_update_loop (by rw[Around.under_plainId PyProof.Rows.F.plain_set_update_loop _];show wpAny _ A.in1 (pyNext (.ref I)>>=_) _ _ s;refine wB (W.done s _ _ st fun s' hm=>?_);show wpAny _ A.in1 (ret Value.none) _ _ s';exact wP (hR s' _ _ _ _ (hm.mono sub) (SS.of_same (hm.heap S _ nw SS.at_))))
 | succ k ih =>
  intro i s o es ep t hk hi st SS hR;have lt:i<n:=by omega
  refine codeAny_builtin PyProof.Rows.F.entry_set_update_loop ?_;rw[Around.under_plainId PyProof.Rows.F.plain_set_update_loop _];show wpAny _ A.in1 (pyNext (.ref I)>>=_) _ _ s;refine wB (W.item i s _ _ lt st fun v s1 pv st1 hm=>?_);obtain⟨x,u,rfl,hx⟩:=hv i v pv;have S1:=SS.of_same (hm.heap S _ nw SS.at_);show wpAny _ A.in1 (holding [Value.int x u] (setAdd S (.int x u))>>=_) _ _ s1;refine wB (wpAny_holding (by
    unfold setAdd;refine wpAny_holding (wB ((ax prog w).pyHash (k:=.inl x) (isK x u) ?_));refine fA.add (s:={s1 with toks:=s1.toks+1}) S1 hx hB hB6 fun b h' o' es' ep' t' sb S2=>?_;refine wP ⟨plainId_quiet PyProof.Rows.F.plain_set_update_loop _,ih (i+1) _ o' es' ep' t' (by omega) lt (W.frame _ s1 _ _ st1 (Nat.le_succ _) fun c hc q e=>?_) S2 fun s3 o3 es3 ep3 t3 hm3 S3=>?_⟩
    · rw[sb.2 c fun z=>hSf (by rw[← z];exact hc)];exact e
    · refine hR s3 o3 es3 ep3 t3 (Moved.trans W.gtrans ((hm.mono sub).then_heap (Nat.le_succ _) fun c q hc e=>?_) hm3) S3;rw[sb.2 c fun z=>hc (by rw[z];exact mCS)];exact e))
end
section
variable {prog:Program} {w:World} {A:Around} {E:VSP} {s:Shared}
abbrev gw (w:World):Obj:={cls:=.type "set",dict:=none,data:=.set #[] 0 (.fresh 0 0 (!(w.params.followText "set-order")))}
theorem rS (a:Value) {Q:VSP} (h:Q (.ref s.heap.objs.size) {s with heap:=s.heap.push (gw w)}) :
 codeAny (model prog w) A (.call (.builtin "set.__new__") ⟨[.type "set",a],[]⟩) (wants Q E) s:=by
 refine codeAny_of_tree (by
   show wpAny _ A.in1 (do checkBuiltinCall "set.__new__" ⟨[.type "set",a],[]⟩;again (.builtin "set.__new__" ⟨[.type "set",a],[]⟩)) _ _ s;refine wB (wpAny_of_eq (PySem.F.newCall_set_1 a) (wP ⟨plainId_quiet PySem.F.plain_set_new _,codeAny_builtin PySem.F.entry_set_new ?_⟩));rw[Around.under_plainId PySem.F.plain_set_new _];unfold Builtin.«set.__new__» Builtin.Frozenset.newClass;have hsub:=sub_set_self;obtain⟨hp,g,d,tk,os⟩:=s;dsimp only
   wp_walk
   refine wpAny_askSetting (wP ?_);dsimp only;simp only[newObj];exact wB (wpAny_alloc (wP (wP h))))
end
section
variable {prog:Program} {w:World} {A:Around} {E:VSP} {s:Shared}
theorem pb {l:Addr} {its:Array Value} {ss B:List Int} {Q:VSP} (hh:A.handled=none) (hl:s.heap.IsList l its) (hv:∀ (i:Nat) (v:Value),its[i]?=some v→∃ x u,v=Value.int x u∧ss[i]?=some x) (hB:∀ x∈ss,x∈B) (hB6:B.length<64)
 (h:∀ h' tk o es ep t,fA prog w h' s.heap.objs.size ss its.size o es ep t→(∀ b q,s.heap.get? b=some q→h'.get? b=some q)→Q (.ref s.heap.objs.size) {s with heap:=h',toks:=tk}) :
 wpAny (model prog w) A (call (.type "set") [.ref l]) Q E s:=by
 obtain⟨c,tl,hmro⟩:=PySem.F.called_set.mro;have hmade:=PySem.F.called_set.made;have hsub:=PySem.F.called_set.sub;refine wpAny_call (codeAny_of_tree (by
   show wpAny _ _ (callAny (.type "set") _) _ _ _;refine wP ⟨Code.quiet_builtin _ (by decide +kernel),codeAny_builtin PySem.F.entry_type_call ?_⟩;rw[Around.under_plain (weight_type_call_type "set" [.ref l] []) rfl];have h1:=PySem.F.called_set.notType;have h2:=PySem.F.called_set.canCreate;have hct:=PySem.F.typeCall_set_1 (.ref l)
   repeat (any_goals (first | assumption | wp_step))
   refine codeAny_mono (rS (.ref l) (E:=E) (Q:=fun obj s1=>obj=.ref s.heap.objs.size∧s1={s with heap:=s.heap.push (gw w)}) ⟨rfl,rfl⟩) fun r s1 hr=>?_;cases r with
   | error e=>exact hr
   | ok fl =>
     cases fl with
     | ret obj =>
       obtain⟨rfl,rfl⟩:=hr;have hS:(s.heap.push (gw w)).get? s.heap.objs.size=some (gw w):=Heap.get?_push_size _ rfl;have hT:Shared.TypeIs {s with heap:=s.heap.push (gw w)} (.ref s.heap.objs.size) "set":=⟨_,hS,rfl⟩;have hli:=PySem.F.called_set.init.lookup;have hbi:=PySem.F.called_set.init.bind (.ref s.heap.objs.size)
       repeat (any_goals (first | assumption | wp_step))
       refine codeAny_mono (codeAny_call_builtin (R:=wants (fun r s2=>r=.none∧∃ h' tk o es ep t,s2={s with heap:=h',toks:=tk}∧fA prog w h' s.heap.objs.size ss its.size o es ep t∧∀ b q,s.heap.get? b=some q→h'.get? b=some q) E) PySem.F.called_set.init.plain PySem.F.entry_set_init (check_set_init_1 hT ?_)) fun r2 s2 hr2=>?_
       · obtain⟨ol,hol,hcl,nl,hdl⟩:=hl;obtain⟨ocls,odict,odata,oslots⟩:=ol;dsimp only at hcl hdl;subst hcl hdl;have hol1:(s.heap.push (gw w)).get? l=some {cls:=.type "list",dict:=odict,data:=.seq its nl,slots:=oslots}:=hpS _ hol;have hsls:=PySem.F.sub_list_set;have hslf:=PySem.F.sub_list_frozenset;have hne:(Value.type "list"==Value.type "dict")=false:=by decide
         have hl1:(s.heap.push (gw w)).IsList l its:=⟨_,hol1,rfl,nl,rfl⟩;unfold Builtin.«set.__init__» noKeywords Builtin.Frozenset.updateFrom;generalize hPI:pyIter=PI
         wp_walk
         subst hPI;refine wpAny_pyIter_list hl1 (wB (wpAny_runValue ?_));have lS:l<s.heap.objs.size:=Heap.lt_size hol;have hh3:A.in1.in1.in1.handled=none:=by simp[hh]
         have nI:l≠(s.heap.push (gw w)).objs.size:=by rw[Heap.size_push];exact Nat.ne_of_lt (Nat.lt_succ_of_lt lS)
         have nS:s.heap.objs.size∉[(s.heap.push (gw w)).objs.size,l]:=by
           rw[Heap.size_push];intro z;simp only[List.mem_cons,nMN,or_false] at z
           rcases z with z | z
           · exact Nat.ne_of_lt (Nat.lt_succ_self _) z
           · exact Nat.ne_of_gt lS z
         have hget:((s.heap.push (gw w)).push {cls:=.type "list_iterator",data:=.fields #[.ref l,.int 0 0]}).get? s.heap.objs.size=some (gw w):=hpS _ hS;refine oZ ((Walks.list hh3 _ l nI its).toS) s.heap.objs.size nS hv hB hB6 (its.size-0) 0 _ (gw w) #[] 0 _ (by omega) (Nat.zero_le _) ⟨⟨_,Heap.get?_push_size _ rfl,rfl,rfl⟩,hl1.push _⟩
           ⟨hget,⟨rfl,rfl,rfl⟩,rfl,fun e he=>by simp at he,by show 0<64;decide,rfl,rfl,⟨fun i j _ z=>absurd z (Nat.not_lt_zero _),rfl⟩,fun e he=>by simp at he,by simp,fun x hx=>by simp at hx⟩ fun s3 o es ep t hm S3=>?_
         obtain⟨h3,g3,d3,tk3,os3⟩:=s3;obtain rfl:g3=s.gens:=hm.gens;obtain rfl:d3=s.drawn:=hm.drawn;obtain rfl:os3=s.os:=hm.os;show wpAny _ _ _ _ _ _;refine wP (by
           show wpAny _ _ (ret Value.none) _ _ _;refine wP ⟨rfl,h3,tk3,o,es,ep,t,rfl,S3,fun b q e=>?_⟩;have lb:=Heap.lt_size e;refine hm.heap b q (fun z=>?_) (hpS _ (hpS _ e));rw[Heap.size_push] at z;simp only[List.mem_cons,nMN,or_false] at z
           rcases z with z | z
           · exact Nat.ne_of_lt lb z
           · exact Nat.ne_of_lt (Nat.lt_succ_of_lt lb) z)
       · cases r2 with
         | error e=>exact hr2
         | ok fl2 =>
           cases fl2 with
           | ret r =>
             obtain⟨rfl,h',tk,o,es,ep,t,rfl,S',k'⟩:=hr2
             repeat (any_goals (first | assumption | wp_step))
             exact h _ _ _ _ _ _ S' k'
           | next=>cases hr2
           | brk=>cases hr2
           | cont=>cases hr2
     | next=>cases hr
     | brk=>cases hr
     | cont=>cases hr))
end
theorem ox:bootBuiltins "set"=some (.type "set"):=by decide +kernel
inductive uQ (K:Fg) (xs:List V) (H:Hp) (Q:VK):Prop
  | mk (p:Addr) (ss:List Int) (h1:xs=[.ref p]) (h2:SqL K H p (ss.map V.int)) (h3:ss.length<64) (q:∀ k:Nat,Q (.int ((k:Nat):Int)) H):uQ K xs H Q
def yL (K:Fg):List V→Hp→VK→Prop:=fun xs H Q=>uQ K xs H Q
theorem xf {X:Cx} {p1 p2 pos1 pos2:Pos} {e:Expr} {te:TE} (hm:X.mg "len"=none) (hm2:X.mg "set"=none) (he:PE X e te) (hc:X.calm=true:=by rfl) (hg:Gl X "len":=by rfl) (hg2:Gl X "set":=by rfl)
 (s1:starEach [.Call (.Name "set" p2) [e] [] pos2] X.env=(false,eval (.Call (.Name "set" p2) [e] [] pos2) X.env)::starEach [] X.env:=by rfl) (s2:starEach [e] X.env=(false,eval e X.env)::starEach [] X.env:=by rfl)
 (s3:(backTo pos1 (starEach [] X.env)).any (·.1)=false:=by rfl) (s4:(backTo pos2 (starEach [] X.env)).any (·.1)=false:=by rfl) (s5:backTo pos1 (starEach [] X.env)=[]:=by rfl) (s6:backTo pos2 (starEach [] X.env)=[]:=by rfl) :
 PE X (.Call (.Name "len" p1) [.Call (.Name "set" p2) [e] [] pos2] [] pos1) (tCB (yL X.K) (cP te iC)):=by
 intro pins s σ H Q I h;have hh:X.A.handled=none:=I.ok.hd hc;refine wpAny_Call_Name_kw (cW I hg hm boot_len (PyProof.Rows.callWith_builtin1 ?_ s1 s3));rw[s1];show wpAny _ _ (spliced ((false,eval (.Call (.Name "set" p2) [e] [] pos2) X.env)::backTo pos1 (starEach [] X.env))) _ _ s;rw[s5];refine Calls.spliced_cons (wpAny_Call_Name_kw (cW I hg2 hm2 ox (PyProof.Rows.callWith_type1 ?_ s2 s4)));rw[s2];show wpAny _ _ (spliced ((false,eval e X.env)::backTo pos2 (starEach [] X.env))) _ _ s;rw[s6];refine Calls.spliced_cons (thn (he pins s σ H _ I h) fun u s1 z=>Calls.spliced_nil ?_);obtain⟨x,H1,I1,rx,p,ss,ex,hq,hl,q⟩:=z;cases ex;cases rx;obtain⟨its,rv,pl,hz⟩:=I1.list hq;have hlen:=rv.length;rw[lMp] at hlen;refine pb (ss:=ss) (B:=ss) hh pl.isList (fun i v hv=>?_) (fun x hx=>hx) hl fun h2 tk o es ep t S k2=>Calls.spliced_nil ?_
 · have hv':its[i]?=some v:=by simpa using hv
   have hi:i<ss.length:=by have:=(gES.mp hv').1;omega
   obtain⟨u,hu,ru⟩:=rv.get (i:=i) (x:=V.int ss[i]) (by rw[gEM,gEE hi];rfl);rw[hv'] at hu;cases hu;obtain⟨t,rfl⟩:=ru;exact⟨ss[i],t,rfl,gEE hi⟩
 · have:=S.sz;refine call_len_set (s:={s1 with heap:=h2,toks:=tk}) S.at_ S.ex S.dt S.ft (by omega) ?_;exact⟨.int ((es.size:Nat):Int),H1,I1.kept (t':=tk+1+1) fun b o z=>k2 _ _ z,⟨_,rfl⟩,q es.size⟩
def DK1 (P:Program) (w:World) (d:Addr) (kvs:List (Key×V)) (h:Heap):Prop:=kvs.length≤sizeLine∧(d==sysModules)=false∧∃ vs,KV kvs vs∧h.DictOf (ax P w) d vs
def DKo (P:Program) (w:World) (d:Addr) (o:Obj) (kvs:List (Key×V)):HO:=.ext fun h=>h.get? d=some o∧DK1 P w d kvs h
section
variable {P:Program} {w:World} {H H':Hp} {h h':Heap} {d:Addr} {o:Obj} {kvs:List (Key×V)}
theorem qD (x:DK1 P w d kvs h) (k:∀ o,h.get? d=some o→h'.get? d=some o):DK1 P w d kvs h':=by
 obtain⟨z,y,vs,r,o,es,ep,e,c⟩:=x;exact⟨z,y,vs,r,o,es,ep,k _ e,c⟩
theorem wI (e:h.get? d=some o) (x:DK1 P w d kvs h):bj P w H h d (DKo P w d o kvs):=⟨⟨e,x⟩,⟨o,e⟩,fun h1 h2 a b=>⟨b _ a.1,qD a.2 b⟩⟩
theorem jC (ok:HOk P w H h) (e:H d=some (DKo P w d o kvs)):h.get? d=some o∧DK1 P w d kvs h:=(ok d _ e).1
theorem wn {es:List DictEntry} {vs:List (Key×Value)} {kvs:List (Key×V)} (p:Pairs (ax P w) es vs) (r:KV kvs vs):∀ {i:Nat} {x:Key×V},kvs[i]?=some x→∃ e,es[i]?=some e∧aT (kV x.1) e.key:=by
 induction p generalizing kvs with
 | nil=>intro i x hx;cases r;cases hx
 | @cons e kv es vs h1 h2 _ ih =>
  intro i x hx;cases r with
  | cons a b =>
   cases i with
   | zero =>
    cases hx;refine⟨e,rfl,?_⟩;rw[a.1];obtain⟨k,v⟩:=kv;cases k with
    | inl i=>exact Value.isInt_shape h1
    | inr s=>exact Value.isStrOf_shape h1
   | succ i=>exact ih b hx
end
def Itk (P:Program) (w:World) (d:Addr) (o:Obj) (kvs:List (Key×V)):It:=⟨fun i H=>i<kvs.length∧H d=some (DKo P w d o kvs),fun i H v H'=>H'=H∧∃ x,kvs[i]?=some x∧v=kV x.1,fun i H=>kvs.length≤i∧H d=some (DKo P w d o kvs)⟩
theorem rJ {P:Program} {w:World} {K:Fg} {tg:Expr} (it d:Addr) (o:Obj) (kvs:List (Key×V)) {es:Array DictEntry} {ep:Nat} (hdat:o.data=.dict es ep):lX P w K tg (Itk P w d o kvs) [it] it (fun i h=>h.IsKeyIter it d i es.size ep) where
 mem:=by simp
 obj:=fun i h st b hb=>by
  have e:b=it:=by simpa using hb
  subst e;obtain⟨o,e,c,d⟩:=st;exact⟨o,e,fun v z=>by rw[d] at z;cases z⟩
 keep:=fun i h h' st k=>by
  obtain⟨o,e,r⟩:=st;exact⟨o,k it (by simp) o e,r⟩
 item:=by
  intro X hP hw hK hc i pins s σ H E I hf st hg;subst hP hw hK;obtain⟨f0,f1,f2,f3,f4,f5⟩:=hf it (by simp);obtain⟨hi,hH⟩:=hg;obtain⟨ho,z,_,vs,rel,o2,es2,ep2,h1,h2,h3,h4,h5,h6⟩:=jC I.hok hH;rw[ho] at h1;cases h1;rw[hdat] at h3;cases h3;have hx:kvs[i]?=some kvs[i]:=gEE hi;obtain⟨en,hen,rk⟩:=wn h5 rel hx;have hsz:es.size=kvs.length:=by rw[← Array.length_toList,h5.length,← rel.length]
  have hlt:i<es.size:=by omega
  refine pR st ho hdat hlt fun h' st' sb=>?_;have I1:Inv X pins σ H {s with heap:=h',toks:=s.toks}:=I.turned (fun b o hb e=>(sb.2 b hb).trans e) f0 f1 f3 f4 f5;obtain⟨oi,e,c,dd⟩:=id st';have hk:es[i]=en:=by
   rw[Array.getElem?_toList,Array.getElem?_eq_getElem hlt] at hen;exact Option.some.inj hen
  rw[← hk] at rk;exact⟨_,rfl,mK (s:={s with heap:=h'}) e c dd (by decide) ⟨kV kvs[i].1,H,I1,rk,⟨rfl,_,hx,rfl⟩,st',fun b hb=>(hf b hb).1⟩⟩
 done:=by
  intro X hP hw hK hc i pins s σ H E I hf st hg;subst hP hw hK;obtain⟨f0,f1,f2,f3,f4,f5⟩:=hf it (by simp);obtain⟨hi,hH⟩:=hg;obtain⟨ho,z,_,vs,rel,o2,es2,ep2,h1,h2,h3,h4,h5,h6⟩:=jC I.hok hH;rw[ho] at h1;cases h1;rw[hdat] at h3;cases h3;have hsz:es.size=kvs.length:=by rw[← Array.length_toList,h5.length,← rel.length]
  exact rZ (I.ok.hd hc) st ho hdat (by rw[hsz];exact hi) fun h' eb=>⟨rfl,I.turned (t':=s.toks) (fun b o hb e=>eb b o hb e) f0 f1 f3 f4 f5⟩
 self:=fun _ _ _ _ _ st h=>wpAny_pyIter_keyiter st h
def iDk (P:Program) (w:World) (tl:TE):TI:=fun σ H R=>tl σ H fun v H1=>∃ d kvs,v=.ref d∧H1 d=some (.dK kvs)∧∀ o,R (Itk P w d o kvs) (upd H1 d (DKo P w d o kvs))
theorem yP {X:Cx} {tg l:Expr} {tl:TE} (hl:PE X l tl):PI X tg l (iDk X.prog X.w tl):=by
 intro pins s σ H R I h;refine thn (hl pins s σ H _ I h) fun v s1 z=>?_;obtain⟨y,H1,I1,r1,d,kvs,ey,hH,q⟩:=z;subst ey;obtain rfl:v=Value.ref d:=r1;have hdk:=kO I1.hok hH;obtain⟨z,hd,vs,rel,o,es,ep,h1,h2,h3,h4,h5,h6⟩:=id hdk;have I2:Inv X pins σ (upd H1 d (DKo X.prog X.w d o kvs)) s1:=dF (h':=s1.heap) (t':=s1.toks) I1 (by rw[hH];exact True.intro) ⟨rfl,fun _ _=>rfl⟩ ⟨o,h1⟩ (wI h1 hdk);refine pS hd h1 h2 h3 ?_;refine⟨s1.heap.objs.size,[s1.heap.objs.size],_,_,_,rfl,I2.kept (t':=s1.toks) fun b o e=>hpS _ e,rJ _ d o kvs h3,⟨_,Heap.get?_push_size _ rfl,rfl,rfl⟩,fun b hb=>?_,q o⟩;have e:b=s1.heap.objs.size:=by simpa using hb
 subst e;exact I2.fpOk (Nat.le_refl _) (I2.hok.fresh (Nat.le_refl _))
theorem n0 {P:Program} {w:World} {d:Addr} {o:Obj} {kvs:List (Key×V)}:di (Itk P w d o kvs) (kvs.map fun x=>kV x.1) (fun H=>H d=some (DKo P w d o kvs)) where
 go:=fun i H h hi=>⟨by rw[lMp] at hi;exact hi,h⟩
 yld:=fun i H x H' hg h hy=>by
  obtain⟨rfl,p,hp,rfl⟩:=hy;exact⟨rfl,by rw[gEM,hp];rfl⟩
 stop:=fun i H h hi=>⟨by rw[lMp] at hi;exact hi,h⟩
inductive DoR (P:Program) (w:World) (x y:V) (H:Hp) (Q:VK):Prop
  | mk (a:Addr) (o:Obj) (kvs:List (Key×V)) (k:Key) (v:V) (h:x=.ref a) (g:H a=some (DKo P w a o kvs)) (e:y=kV k) (l:bP kvs k=some v) (q:Q v H):DoR P w x y H Q
def vg (P:Program) (w:World) (td ty:TE):TE:=fun σ H Q=>td σ H fun x H1=>ty σ H1 fun y H2=>DoR P w x y H2 Q
theorem vM {X:Cx} {o i:Expr} {pos:Pos} {td ty:TE} (ho:PE X o td) (hi:PE X i ty) (hs:tN i):PE X (.Subscript o i pos) (vg X.prog X.w td ty):=by
 intro pins s σ H Q I h;refine jj PySem.F.slot_dict_getitem.lookup hs (thn (ho pins s σ H _ I h) fun u s1 z=>?_);obtain⟨x,H1,I1,rx,q1⟩:=z;refine thn (hi pins s1 σ H1 _ I1 q1) fun iv s2 z=>?_;obtain⟨y,H2,I2,ry,a,ob,kvs,k,v,ex,g,ey,l,q2⟩:=z;subst ex ey;obtain rfl:u=Value.ref a:=rx;obtain⟨hob,z,hd,vs,rel,dd⟩:=jC I2.hok g;obtain⟨w',hw,rw'⟩:=fB.some_of (v:=v) (o:=valueAt vs k) (by have z:=rel.val k;rw[l] at z;exact z);exact⟨dd.typeIs,wpAny_getItem_of (gp ry) dd.mapOf hw ⟨v,H2,I2.tok _,rw',q2⟩⟩
def tS (P:Program) (w:World) (t:TE):TE:=fun σ H Q=>t σ H fun v H1=>∃ d o kvs,H1 d=some (DKo P w d o kvs)∧Q v (upd H1 d (.dK kvs))
theorem sy {X:Cx} {e:Expr} {t:TE} (h:PE X e t):PE X e (tS X.prog X.w t):=by
 intro pins s σ H Q I hw;refine thn (h pins s σ H _ I hw) fun u s1 z=>?_;obtain⟨x,H1,I1,rx,d,o,kvs,g,q⟩:=z;obtain⟨ho,hdk⟩:=jC I1.hok g;exact⟨x,_,dF (h':=s1.heap) (t':=s1.toks) (ob:=.dK kvs) I1 (by rw[g];exact True.intro) ⟨rfl,fun _ _=>rfl⟩ ⟨o,ho⟩ (show bj X.prog X.w _ s1.heap d (.dK kvs) from hdk),rx,q⟩
end L2
namespace K12
open PySem PySem.SeqAt L2 P10
section
variable {P:Program} {w:World} {K:Fg} {mg:SOV} {base:Heap}
def jR (kvs:List (Key×V)):Prop:=∀ kv∈kvs,∃ i j,kv=((.inl i:Key),V.int j)
theorem jR.put {kvs:List (Key×V)} (h:jR kvs) (i j:Int):jR (bS kvs (.inl i) (.int j)):=fun kv hkv=>by
 unfold bS at hkv;split at hkv
 · obtain⟨q,hq,rfl⟩:=List.mem_map.mp hkv;obtain⟨i',j',rfl⟩:=h q hq;split
   · exact⟨_,_,rfl⟩
   · exact⟨_,_,rfl⟩
 · rcases mAp.mp hkv with z | z
   · exact h kv z
   · rw[mSg.mp z];exact⟨_,_,rfl⟩
theorem jR.int {kvs:List (Key×V)} (h:jR kvs):iK kvs:=fun i v e=>by
 unfold bP at e;obtain⟨q,hq,rfl⟩:=oMS.mp e;obtain⟨_,j,rfl⟩:=h q (List.mem_of_find?_eq_some hq);exact⟨j,rfl⟩
theorem jR.at {kvs:List (Key×V)} (h:jR kvs) {x:Key×V} (hx:x∈kvs):∃ i j,x.1=.inl i∧bP kvs (.inl i)=some (.int j):=by
 obtain⟨i,j,rfl⟩:=h x hx;refine⟨i,?_⟩;unfold bP;cases e:kvs.find? fun kv=>decide (kv.1=(.inl i:Key)) with
 | none =>
  have:=List.find?_eq_none.mp e _ hx;simp at this
 | some y =>
  obtain⟨i',j',rfl⟩:=h y (List.mem_of_find?_eq_some e);exact⟨j',rfl,rfl⟩
theorem jn {lo:Int} {n i:Nat} {x:V} (h:(L2.bG lo n)[i]?=some x):i<n∧x=.int (lo+((i:Nat):Int)):=by
 unfold L2.bG at h;rw[gEM] at h;obtain⟨k,h1,rfl⟩:=oMS.mp h;have hi:=(gES.mp h1).1;rw[gEE hi,List.getElem_range] at h1;cases h1;exact⟨by simpa using hi,rfl⟩
theorem Pk.mof {H H':Hp} {s a:Addr} {n:Nat} {m:Str→Option V} {ns:List Int} {k:Int} (p:Pk K H s n m a ns k) (mo:Mo H s H'):∀ b o,(∀ kvs,o≠.dK kvs)→H b=some o→H' b=some o:=fun b o ho z=>by
 obtain⟨kvs,h1,_⟩:=p.st;have ne:b≠s:=fun e=>by rw[e,h1] at z;exact ho kvs (Option.some.inj z).symm
 rw[mo b ne];exact z
abbrev gU:Stmt:=top 41
abbrev wa:List Str:=["_law_script","_law_state","_law_function","_law_head","_law_count","_law_body","_law_ids","_law_one","_law_k","_law_more","_law_same","_law_twice","_law_part"]
inductive rg (K:Fg) (vs:List V) (H:Hp) (Q:VK):Prop
  | mk (a:Addr) (ns:List Int) (g0_:vs=[.ref a]) (g1_:SqL K H a (ns.map V.int)) (g2_:ns.length≤63) (g3_:∀ H',Q (.bl true) H'):rg K vs H Q
def mv (K:Fg):Sp:=fun vs H Q _=>rg K vs H Q
theorem tW:aB wa ["_law_script"] (a7 gU):=fsM
theorem zO:(["_law_one","_law_more"]:List Str).Nodup:=by decide +kernel
theorem BD:(["_law_other","_law_more"]:List Str).Nodup:=by decide +kernel
theorem vW {f:Addr} {fd:FuncData} (F:Fun K "law" "law" gU f fd) (T:Blt mg) (hdict:mg "dict"=none) (hset:mg "set"=none) (m5:Fn P w K mg base "_law_made" 32 ["_law_script"] (xM P w K)) (ab:Fn P w K mg base "_law_pick" 2 ["_law_state","_law_many"] (iD K)) (d6:Fn P w K mg base "_law_all_funs" 7 ["_law_e"] (oY K 5)) (l7:Fn P w K mg base "_law_hides" 8 vI (xP K 5)) (ce:Fn P w K mg base "_law_turned" 12 ["_law_thing","_law_ids"] (ka K 11)) (jQ:Fn P w K mg base "canon" 3 ["function"] (vq K)):iM P w K mg base CX0 33 f fd ["_law_script"] (mv K):=by
 refine F.ok tW (fun vs H Q E h=>?_) (fun cdv A outer s0 H vs Q E hr h=>?_)
 · obtain⟨a,ns,rfl,_⟩:=h;rfl
 · obtain⟨a,ns,rfl,hS,hlen,q⟩:=h;have nd:=tW.nd;have hu:=bX hr;have hz0:(1000000:Nat)<sizeLine:=by decide
   refine⟨_,(pE (pN (i:=1) nd rfl (Or.inl rfl) (aa m5 (hr.mono (by decide)) rfl (pA (pv 0) pC)))
 (pE (bp PassesOwn.never rfl (eZ (aq aF (pM hu (pv 1) pD (fun _ _=>rfl)) pH (fun _ _=>rfl))) (ae (i:=2) nd rfl (Or.inl rfl))
 (pE (aN (pO (lw hr.units) (aa jQ (hr.mono (by decide)) rfl (pA (pv 2) pC)) (pv 2) (pP _)) (pI (az dW)) aE)
 (pE (jp (pv 2) (dh rfl (aP (ae (i:=3) nd rfl (Or.inl rfl)) (aP (ae (i:=4) nd rfl (Or.inl rfl)) (aP (ae (i:=5) nd rfl (Or.inl rfl)) cE)))))
 (pE (pN (i:=6) nd rfl (Or.inl rfl) kC)
 (pE (bp PassesOwn.never rfl (iT rfl T.range (pA (pv 4) (pA (aC bI (pv 4) pH) pC))) (ae (i:=7) nd rfl (Or.inl rfl))
 (pI (bg hu (pv 6) (pv 7) (aC bI pH (aC ie pH (pv 7))) rfl)))
 (pE (aN (pO (lw hr.units) (aa jQ (hr.mono (by decide)) rfl (pA (au (pA (pv 3) (pA (pv 4) (pA (aa ce (hr.mono (by decide)) rfl (pA (pv 5) (pA (pv 6) pC))) pC)))) pC)) (pv 2) (pP _)) (pI (az dW)) aE)
 (pI (bp PassesOwn.never rfl (bz rfl T.range (pA pH pC)) (ae (i:=8) nd rfl (Or.inl rfl))
 (pE (pN (i:=9) nd rfl (Or.inr rfl) (mY hdict (pA (pv 6) pC)))
 (pE (bp PassesOwn.never rfl (iT rfl T.range (pA (pv 4) (pA (aC bI (pv 4) pH) pC))) (ae (i:=7) nd rfl (Or.inl rfl))
 (pI (bg hu (pv 9) (pv 7) (aq aH (ag (pA pH (pA pH (pA (aC bI (pv 4) (aa ab (hr.mono (by decide)) rfl (pA (pv 1) (pA pH pC)))) (pA (pv 7) pC))))) (aa ab (hr.mono (by decide)) rfl (pA (pv 1) (pA pH pC))) (fun _ _=>rfl)) rfl)))
 (pE (eR (i0:=10) (own:=["_law_one"]) (outs:=[(9,"_law_more")]) (tc:=gl (tOp (rIn K false) (cq 0) (tS P w (tLC (iDk P w (cq 1)) 1 [(1,"_law_more")] (eT 0) nC (vg P w (cq 1) (cq 0)))))) rfl (aI.of (a7 gU) wa) (bz rfl T.range (pA (pv 4) pC)) (fun _ _ _ _=>⟨(ae (i:=0) zO rfl (Or.inl rfl)),(cx (pO cA (pv 0) (sy (dU (own:=["_law_other"]) (outs:=[(1,"_law_more")]) rfl (aI.of {kind:=.function,names:=[(".0",.local),("_law_one",.local),("_law_more",.cell)],isGenerator:=false,isCoroutine:=false} ["_law_one","_law_more"]) (yP (pv 1)) (fun _ _ _ _=>⟨(ae (i:=0) BD rfl (Or.inl rfl)),bL,(vM (pv 1) (pv 0) (fun _ _=>rfl))⟩))) (by with_unfolding_all rfl))),(pv 0)⟩) nd rfl rfl)
 (pE (pN (i:=11) nd rfl (Or.inl rfl) (ag pC))
 (pE (bp PassesOwn.never rfl (bu (aa d6 (hr.mono (by decide)) rfl (pA (pv 5) pC))) (ae (i:=12) nd rfl (Or.inl rfl))
 (pI (aN (pO iV (xf T.len hset (dU (own:=["_law_one"]) (outs:=[(9,"_law_more")]) rfl (aI.of (a7 gU) wa) (eZ (pv 12)) (fun _ _ _ _=>⟨(ae (i:=0) zO rfl (Or.inl rfl)),bL,(dv hu (pv 1) (pv 0) (pv 0) ⟨rfl,rfl,rfl,rfl⟩)⟩))) (bc T.len (pA (pv 12) pC)) (pP _)) (pI (am (aX (pv 11) (pA (pv 12) pC)))) aE)))
 (pI (aN (PW.pt (b8 (pO (jw hu) (pv 10) (ag pC) (pP _)) (b8 (pO (jw hu) (pv 11) (ag pC) (pP _)) (bn (gZ (cV (aa l7 (hr.mono (by decide)) rfl (pA (pv 5) (pA (pv 9) pC))))))))) (pI (aN (pO (lw hr.units) (aa jQ (hr.mono (by decide)) rfl (pA (au (pA (pv 3) (pA (pv 4) (pA (aa ce (hr.mono (by decide)) rfl (pA (pv 5) (pA (pv 9) pC))) pC)))) pC)) (pv 2) (pP _)) (pI (az dW)) aE)) aE)))))))))))))))
 (pI (az dW)))),?_⟩
   dsimp only[bJ,bN,bM];refine a0 fun rD iB=>?_;refine⟨_,rfl,a,ns,rfl,hS,hlen,fun s sp c cf skv fvs fds v2 v3 H1 hpk e_sp hna e_c e_cf htd hoe hspo hfn=>?_⟩;obtain⟨a',n,m,k,pk,hk9,m_sp,m_co⟩:=hpk;refine iB _ _ (a0 fun mF iq=>?_);refine⟨_,rfl,s,_,rfl,pk.st.get m_co,c,_,0,_,rfl,rfl,SqT.of e_c,pJ (j:=0) rfl,cf,rfl,⟨_,SqT.of e_cf⟩,?_⟩;show aw _ _ _ _ _ _;have hfl:=htd.length;rw[lMp] at hfl;refine aw.byN (bT (xs:=fvs)) (fun i σ Hi=>(∃ m' k',Pk K Hi s n m' a' ns k'∧k'≤k+480*((i:Nat):Int))∧SqT K Hi cf fvs∧TDs K Hi fvs (fds.map fD)∧∃ x2 x3 x4 x5 x6 x7 x8 x9 x10 x11 x12,σ=[some (.ref a),some (.ref s),x2,x3,x4,x5,x6,x7,x8,x9,x10,x11,x12])
    ⟨⟨m,k,pk,by omega⟩,SqT.of e_cf,htd,_,_,_,_,_,_,_,_,_,_,_,rfl⟩ (fun i σ Hi _ z=>z.2.1) ?_ ?_
   · rintro i v σ Hi N_ B_ hN_ hB_ hv ⟨⟨m1,k1,pk1,hk1⟩,hcf,htdi,x2,x3,x4,x5,x6,x7,x8,x9,x10,x11,x12,rfl⟩;have hil:i<fvs.length:=(gES.mp hv).1;obtain⟨dd,hdd,tv⟩:=htdi.get hv;rw[gEM] at hdd;obtain⟨⟨hd,c',d⟩,ht,rfl⟩:=oMS.mp hdd;obtain⟨⟨n4,hc4,hn4,okd,j,hcn,hj⟩,hlay⟩:=hoe _ (mGE ht);replace hc4:c'=((n4:Nat):Int):=hc4;replace okd:OkE (rgI 0 n4) 5 d:=okd;replace hcn:CnD 5 c' d j:=hcn;replace hlay:(PyData.str hd).canLay0=true:=hlay;replace tv:TD K Hi v (.tuple [.str hd,.int c',d]):=tv;have wf:=okd.wf;have hpre:(ca 5 d).length≤59049:=sr wf;have hf:∀ i,FrD 5 d i→0≤i∧i<c':=fun i z=>by
      have:=okd.cl i z;unfold rgI at this;obtain⟨t,ht,rfl⟩:=List.mem_map.mp this;have:=List.mem_range.mp ht;omega
     have lyd:Ly 10 d:=okd.ly;have lyF:Ly 11 (.tuple [.str hd,.int c',d]):=we fun x hx=>by
      simp only[List.mem_cons,nMN,or_false] at hx
      rcases hx with rfl | rfl | rfl
      · exact⟨hlay,Nat.zero_le _⟩
      · exact⟨rfl,Nat.zero_le _⟩
      · exact lyd
     have can:∀ {g:Int→Int} {Hx:Hp} {u:V} {R:VK},TD K Hx u (.tuple [.str hd,.int c',b7 (aY g) 5 d])→(∀ p∈ga 5 d [],OkP g p)→(∀ i,0≤i→i<c'→g i=i)→(∀ t Hy,ak Hx Hy→TD K Hy t (.tuple [.str hd,.int c',d])→R t Hy)→vq K [u] Hx R E0:=fun {g Hx u R} tu hok hg hR =>
      ⟨u,hd,c',j,d,g,5,rfl,tu,wf,hcn,vF wf (rW _) hok (fun i z _=>hg i (hf i z).1 (hf i z).2),by omega,by decide,by omega,hR⟩
     have ne:∀ {Hy:Hp} {t v':V} {R:VK},TD K Hy t (.tuple [.str hd,.int c',d])→TD K Hy v' (.tuple [.str hd,.int c',d])→R (.bl false) Hy→yK K t v' Hy R:=fun {Hy t v' R} ty tv' hR =>
      ⟨_,_,ty.dat,tv'.dat,lyF.shaped (by decide),lyF.shaped (by decide),by rw[eqv_refl _ lyF.1];exact hR⟩
     refine a0 fun sI kK=>?_;refine⟨_,rfl,can (g:=fun i=>i) (by rw[rH wf];exact tv) (qg hcn (by omega) hj hf fun a b _ _ _ _ e=>e) (fun i _ _=>rfl) fun t2 H2 s2 t2d=>?_⟩;refine⟨_,rfl,ne t2d (tv.same s2) ⟨_,rfl,aZ (kK _ _ ?_)⟩⟩;refine a0 fun Dk A3=>?_;have tv2:=tv.same s2;obtain⟨af,xs,rfl,haf,hxs⟩:=tv2.tup_of;obtain⟨y0,y1,y2,rfl,e0,e1,e2⟩:=uX hxs;obtain rfl:=e0.str_of;obtain rfl:=e1.int_of;refine⟨_,rfl,af,_,rfl,haf,rfl,_,_,rfl,_,_,rfl,_,_,rfl,rfl,?_⟩;refine A3 _ _ (a0 fun Dj A1=>?_);refine fun D hD=>?_;have k3:=smu (o:=HO.dK []) hD;have hD3:(upd H2 D (.dK [])) D=some (.dK []):=pG;have pk2:=(pk1.same s2);have sD:s≠D:=fun e=>by obtain⟨kv,z,_⟩:=pk2.st;rw[e,hD] at z;cases z
     generalize upd H2 D (.dK [])=H3 at k3 hD3 ⊢;have pk3:=pk2.same k3;refine A1 _ _ (a0 fun Di A0=>?_);have S3:=s2.trans k3
     let KP:Hp→Hp→Prop:=fun H H'=>∀ b o,(∀ kvs,o≠.dK kvs)→H b=some o→H' b=some o
     have kp0:∀ {H H':Hp},ak H H'→KP H H':=fun s b o _ z=>s b o z;have kpt:∀ {H H' H'':Hp},KP H H'→KP H' H''→KP H H'':=fun x y b o ho z=>y b o ho (x b o ho z);have kpk:∀ {H H':Hp},KP H H'→Tk H H':=fun x b xs z=>by
      rcases z with z | ⟨o',z⟩
      · exact .inl (x _ _ (fun _ z=>nomatch z) z)
      · exact .inr ⟨o',x _ _ (fun _ z=>nomatch z) z⟩
     have kpu:∀ {H:Hp} {b:Addr} {kv kv':List (Key×V)},H b=some (.dK kv)→KP H (upd H b (.dK kv')):=fun {H b kv kv'} h c o ho z=>by
      rw[a9 fun e=>by rw[e,h] at z;exact ho _ (Option.some.inj z).symm];exact z
     have pku:∀ {H:Hp} {b:Addr} {kv kv':List (Key×V)} {m':Str→Option V} {k':Int},Pk K H s n m' a' ns k'→b≠s→H b=some (.dK kv)→Pk K (upd H b (.dK kv')) s n m' a' ns k':=fun {H b kv kv' m' k'} p hb h=>by
      refine⟨?_,p.hn,p.sc,p.ne,?_,p.len,p.hk,p.k0⟩
      · obtain⟨kv,z1,z2⟩:=p.st;exact⟨kv,by rw[a9 (Ne.symm hb)];exact z1,z2⟩
      · rcases p.sq with (z | ⟨o,z⟩) | z
        · exact .inl (.inl (by rw[a9 fun e=>by rw[e,h] at z;cases z];exact z))
        · exact .inl (.inr ⟨o,by rw[a9 fun e=>by rw[e,h] at z;cases z];exact z⟩)
        · exact .inr z
     refine⟨_,rfl,_,rfl,_,_,rfl,rfl,_,_,rfl,⟨by omega,by omega,by omega,by omega⟩,?_⟩;rw[show (c'+40-c').toNat=40 by omega];show aw _ _ _ _ _ _;have hln:(L2.bG c' 40).length=40:=by simp[L2.bG]
     refine aw.byN (b4 (lo:=c') (n:=40)) (fun l σ Hl=>KP H3 Hl∧Pk K Hl s n m1 a' ns k1∧(∃ kvs,Hl D=some (.dK kvs)∧jR kvs∧kvs.length≤l∧∀ x,gK kvs x=if c'≤x∧x<c'+((l:Nat):Int) then 100+7*x else x)∧∃ x7,σ=[some (.ref a),some (.ref s),some (.ref af),some (.str hd),some (.int c'),some y2,some (.ref D),x7,x8,x9,x10,x11,x12])
      ⟨kp0 (ak.refl _),pk3,⟨[],hD3,fun kv z=>absurd z nMN,Nat.le_refl _,fun x=>by rw[if_neg (by omega)];rfl⟩,_,rfl⟩ (fun _ _ _ _ _=>trivial) ?_ ?_
     · rintro l y σ Hl EK EO C2 EE hy ⟨kpl,pkl,⟨kvs,hDl,hall,hkl,hgk⟩,x7',rfl⟩;obtain⟨hl40,rfl⟩:=jn hy;refine⟨_,rfl,_,_,rfl,rfl,.inl ⟨by decide,by decide⟩,_,_,rfl,rfl,_,rfl,_,rfl,D,_,rfl,dk.k (k:=.inl (c'+((l:Nat):Int))) hDl (by omega),C2 _ _ ⟨kpt kpl (kpu hDl),pku pkl (Ne.symm sD) hDl,⟨_,pG,hall.put _ _,?_,fun x=>?_⟩,_,rfl⟩⟩
       · have:=bq kvs (.inl (c'+((l:Nat):Int)):Key) (.int (100+7*(c'+((l:Nat):Int))));omega
       · rw[jA,hgk];by_cases e:x=c'+((l:Nat):Int)
         · rw[if_pos e,if_pos (by omega),e]
         · rw[if_neg e];by_cases e2:c'≤x∧x<c'+((l:Nat):Int)
           · rw[if_pos e2,if_pos (by omega)]
           · rw[if_neg e2,if_neg (by omega)]
     rintro σ H4 ⟨kp4,pk4,⟨kvs,hD4,hall,hkl,hgk⟩,x7',rfl⟩;rw[hln] at hkl hgk;refine A0 _ _ (a0 fun E6 Ca=>?_);have te4:=(e2.same k3).tk (kpk kp4);have tv4:=(tv2.same k3).tk (kpk kp4);have hgl:∀ x,0≤x→x<c'→gK kvs x=x:=fun x _ h=>by rw[hgk,if_neg (by omega)]
     refine⟨_,rfl,_,rfl,_,rfl,_,rfl,y2,D,d,_,kvs,rfl,te4,hD4,hall.int,.ex 5 (by decide) wf (lyd.more (by decide)) rfl,fun vt H5 s5 t5=>⟨ee,fun u hu'=>?_⟩⟩;have k6:=smu (o:=HO.tup [.str hd,.int c',vt]) hu';refine can (g:=gK kvs) (.tup (SqT.of pG) (.cons (.str _) (.cons (.int _) (.cons (t5.same k6) .nil)))) (qg hcn (by omega) hj hf fun x y hx0 hx1 hy0 hy1 e=>?_) hgl fun t7 H7 s7 t7d=>?_
     · rw[hgk,hgk] at e;split at e <;> split at e <;> omega
     have S7:=s5.trans (k6.trans s7);refine⟨_,rfl,ne t7d (tv4.same S7) ⟨_,rfl,aZ (Ca _ _ ?_)⟩⟩;refine⟨_,rfl,by decide,by decide,?_⟩;show aw _ _ _ _ _ _;have kp7:=kpt kp4 (kp0 S7);refine aw.byN (b4 (lo:=0) (n:=6)) (fun r σ Hr=>KP H7 Hr∧(∃ m' k',Pk K Hr s n m' a' ns k'∧k'≤k1+80*((r:Nat):Int))∧Hr D=some (.dK kvs)∧∃ x7 x8 x9 x10 x11 x12,σ=[some (.ref a),some (.ref s),some (.ref af),some (.str hd),some (.int c'),some y2,some (.ref D),x7,x8,x9,x10,x11,x12])
      ⟨kp0 (ak.refl _),⟨m1,k1,pk4.same S7,by omega⟩,S7 _ _ hD4,_,_,_,_,_,_,rfl⟩ (fun _ _ _ _ _=>trivial) ?_ ?_
     · rintro r y σ Hr DU EN C1 ED hy ⟨kpr,⟨mr,kr,pkr,hkr⟩,hDr,x7r,x8r,x9r,x10r,x11r,x12r,rfl⟩;obtain⟨hr6,rfl⟩:=jn hy;refine a0 fun E2 C6=>?_;refine⟨_,rfl,D,kvs,rfl,hDr,fun M hM=>?_⟩;have k8:=smu (o:=HO.dK kvs) hM;have hM8:(upd Hr M (.dK kvs)) M=some (.dK kvs):=pG;have hD8:=k8 _ _ hDr;have sM:s≠M:=fun e=>by obtain⟨kv,z,_⟩:=pkr.st;rw[e,hM] at z;cases z
       have DM:D≠M:=fun e=>by rw[e,hM] at hDr;cases hDr
       generalize upd Hr M (.dK kvs)=H8 at k8 hM8 hD8 ⊢;have pk8:=pkr.same k8;refine C6 _ _ (a0 fun DY C3=>?_);refine⟨_,rfl,_,rfl,_,_,rfl,rfl,_,_,rfl,⟨by omega,by omega,by omega,by omega⟩,?_⟩;rw[show (c'+40-c').toNat=40 by omega];show aw _ _ _ _ _ _;refine aw.byN (b4 (lo:=c') (n:=40)) (fun l σ Hl=>KP H8 Hl∧(∃ m' k',Pk K Hl s n m' a' ns k'∧k'≤kr+2*((l:Nat):Int))∧Hl D=some (.dK kvs)∧(∃ kvm,Hl M=some (.dK kvm)∧jR kvm∧kvm.length≤40+l∧∀ x,0≤x→x<c'→gK kvm x=x)∧∃ x7,σ=[some (.ref a),some (.ref s),some (.ref af),some (.str hd),some (.int c'),some y2,some (.ref D),x7,some (.int (0+((r:Nat):Int))),some (.ref M),x10r,x11r,x12r])
        ⟨kp0 (ak.refl _),⟨_,kr,pk8,by omega⟩,hD8,⟨kvs,hM8,hall,by omega,hgl⟩,_,rfl⟩ (fun _ _ _ _ _=>trivial) ?_ ?_
       · rintro l y σ Hl EJ EM BZ EC hy ⟨kpl,⟨ml,kl,pkl,hkl'⟩,hDl,⟨kvm,hMl,halm,hkm,hgm⟩,x7l,rfl⟩;obtain⟨hl40,rfl⟩:=jn hy;refine⟨_,rfl,_,rfl,mC (E:=E0) pkl (by omega) (by decide) fun r9 H9 r90 r91 mo9 pk9=>?_⟩;have kp9:=kpt kpl (pkl.mof mo9);have hM9:H9 M=some (.dK kvm):=by rw[mo9 M (Ne.symm sM)];exact hMl
         have hD9:H9 D=some (.dK kvs):=by rw[mo9 D (Ne.symm sD)];exact hDl
         refine⟨_,_,rfl,rfl,_,rfl,Bf,fun L hL=>?_⟩;have k10:=smu (o:=HO.lst [V.int 200,V.int 201,V.int (c'+r9),V.int (c'+((l:Nat):Int))]) hL;have hL10:(upd H9 L (.lst [V.int 200,V.int 201,V.int (c'+r9),V.int (c'+((l:Nat):Int))])) L=some (.lst [V.int 200,V.int 201,V.int (c'+r9),V.int (c'+((l:Nat):Int))]):=pG;have sL:L≠s:=fun e=>by obtain⟨kv,z,_⟩:=pk9.st;rw[← e,hL] at z;cases z
         generalize upd H9 L (.lst [V.int 200,V.int 201,V.int (c'+r9),V.int (c'+((l:Nat):Int))])=H10 at k10 hL10 ⊢;have pk10:=pk9.same k10;refine⟨_,rfl,mC (E:=E0) pk10 (by omega) (by decide) fun r11 H11 r110 r111 mo11 pk11=>?_⟩;obtain⟨j11,rfl⟩:=Int.eq_ofNat_of_zero_le r110;have kp11:=kpt (kpt kp9 (kp0 k10)) (pk10.mof mo11);have hM11:H11 M=some (.dK kvm):=by rw[mo11 M (Ne.symm sM)];exact k10 _ _ hM9
         have hD11:H11 D=some (.dK kvs):=by rw[mo11 D (Ne.symm sD)];exact k10 _ _ hD9
         have hL11:=(mo11 L sL).trans hL10;obtain⟨iv,hiv⟩:∃ iv:Int,([V.int 200,V.int 201,V.int (c'+r9),V.int (c'+((l:Nat):Int))]:List V)[j11]?=some (V.int iv):=by
          rcases (show j11=0∨j11=1∨j11=2∨j11=3 by omega) with rfl | rfl | rfl | rfl
          · exact⟨_,rfl⟩
          · exact⟨_,rfl⟩
          · exact⟨_,rfl⟩
          · exact⟨_,rfl⟩
         refine⟨L,_,_,V.int iv,rfl,rfl,SqL.of hL11,pJ hiv,_,rfl,_,rfl,M,_,rfl,dk.k (k:=.inl (c'+((l:Nat):Int))) hM11 (by omega),BZ _ _ ⟨kpt kp11 (kpu hM11),⟨_,_,pku pk11 (Ne.symm sM) hM11,by omega⟩,by rw[a9 DM];exact hD11,⟨_,pG,halm.put _ _,?_,fun x hx0 hx=>?_⟩,_,rfl⟩⟩
         · have:=bq kvm (.inl (c'+((l:Nat):Int)):Key) (.int iv);omega
         · rw[jA,if_neg (by omega)];exact hgm x hx0 hx
       rintro σ H12 ⟨kp12,⟨m12,kk12,pk12,hk12⟩,hD12,⟨kvm,hM12,halm,hkm,hgm⟩,x7l,rfl⟩;rw[hln] at hk12 hkm;refine C3 _ _ (a0 fun EA CD=>?_);rw[cz,cj];refine⟨_,rfl,_,rfl,by omega,by omega,fun G hG=>?_⟩;have GM:G≠M:=fun e=>by rw[e,hM12] at hG;cases hG
       refine b6.by (b4 (lo:=0) (n:=c'.toNat)) (fun t σ Ht=>bY M H12 Ht∧Ht M=some (.dK kvm)∧(∃ zg,Ht G=some (.lst zg)∧zg.length≤t)∧∃ y,σ=[y,some (.ref M)]) ⟨bY.of (smu hG),by rw[a9 (Ne.symm GM)];exact hM12,⟨[],pG,Nat.le_refl _⟩,_,rfl⟩ (fun _ _ _ _ _=>trivial) ?_ ?_
       · rintro t y σ Ht hy ⟨st,hMt,⟨zg,hGt,hzg⟩,y',rfl⟩;obtain⟨htc,rfl⟩:=jn hy;rw[aL];refine⟨_,rfl,?_⟩;show tLC (iDk P w (cq 1)) 1 [(1,"_law_more")] (eT 0) nC (vg P w (cq 1) (cq 0)) _ _ _;rw[cj];refine⟨_,rfl,M,kvm,rfl,hMt,fun o U hU=>?_⟩;have hMo:(upd Ht M (DKo P w M o kvm)) M=some (DKo P w M o kvm):=pG;have UM:U≠M:=fun e=>by rw[e,hMo] at hU;cases hU
         have GU:G≠U:=fun e=>by rw[← e,a9 GM,hGt] at hU;cases hU
         refine b6.by (n0 (P:=P) (w:=w) (d:=M) (o:=o) (kvs:=kvm)) (fun q σ Hq=>ak (upd Ht M (DKo P w M o kvm)) Hq∧(∃ is:List Int,Hq U=some (.lst (is.map V.int))∧is.length≤q)∧∃ y,σ=[y,some (.ref M)]) ⟨smu hU,⟨[],pG,Nat.le_refl _⟩,_,rfl⟩ (fun q σ Hq _ z=>z.1 _ _ hMo) ?_ ?_
         · rintro q x σ Hq hx ⟨sq,⟨is,hUq,hil'⟩,y',rfl⟩;have hql:q<kvm.length:=by have:=(gES.mp hx).1;rwa [lMp] at this
           rw[gEM] at hx;obtain⟨kv,hkv,rfl⟩:=oMS.mp hx;obtain⟨i0,j0,ek,ev⟩:=halm.at (mGE hkv);rw[ek];rw[aL,df];refine bx ⟨_,rfl,_,rfl,M,o,kvm,.inl i0,.int j0,rfl,sq _ _ hMo,rfl,ev,_,hUq,by rw[lMp];omega,aG sq hU,⟨is++[j0],?_,?_⟩,_,rfl⟩
           · rw[pG,List.map_append];rfl
           · rw[lAp];show is.length+1≤q+1;omega
         rintro σ Hq ⟨sq,⟨is,hUq,_⟩,y',rfl⟩;refine⟨M,o,kvm,sq _ _ hMo,U,is.map V.int,rfl,.inl (SqL.of (by rw[a9 UM];exact hUq)),rfl,gf _,_,rfl,?_⟩;have stq:bY M H12 (upd Hq M (.dK kvm)):=fun b ob hb z=>by
          rw[a9 hb];exact sq _ _ (by rw[a9 hb];exact st _ _ hb z)
         have hGq:(upd Hq M (.dK kvm)) G=some (.lst zg):=by
          rw[a9 GM];exact sq _ _ (by rw[a9 GM];exact hGt)
         show if inV (V.int (0+((t:Nat):Int))) (is.map V.int)=true then _ else _
         by_cases hb:inV (V.int (0+((t:Nat):Int))) (is.map V.int)=true
         · refine pL hb ⟨_,rfl,_,hGq,by omega,fun b ob hb z=>?_,by rw[a9 (Ne.symm GM)];exact pG,⟨_,pG,by rw[lAp];exact Nat.succ_le_succ hzg⟩,_,rfl⟩;rw[a9 (bh z hG)];exact stq b ob hb z
         · exact pK hb ⟨stq,pG,⟨_,hGq,Nat.le_succ_of_le hzg⟩,_,rfl⟩
       rintro σ H13 ⟨st13,hM13,⟨zg,hG13,hzg⟩,y13,rfl⟩;rw[aL];refine CD _ _ (a0 fun Ez CC=>?_);have kp13:KP H12 H13:=fun b ob ho z=>st13 b ob (fun e=>by rw[e,hM12] at z;exact ho _ (Option.some.inj z).symm) z;have hD13:=st13 _ _ DM hD12;have pk13:Pk K H13 s n m12 a' ns kk12:=by
        refine⟨?_,pk12.hn,pk12.sc,pk12.ne,?_,pk12.len,pk12.hk,pk12.k0⟩
        · obtain⟨kv,z1,z2⟩:=pk12.st;exact⟨kv,st13 _ _ sM z1,z2⟩
        · rcases pk12.sq with (z | ⟨ob,z⟩) | z
          · exact .inl (.inl (kp13 _ _ (fun _ z=>nomatch z) z))
          · exact .inl (.inr ⟨ob,kp13 _ _ (fun _ z=>nomatch z) z⟩)
          · exact .inr z
       have jO:KP H7 H13:=kpt kpr (kpt (kp0 k8) (kpt kp12 kp13));have te13:=te4.tk (kpk (kpt (kp0 S7) jO));have tv13:=tv4.tk (kpk (kpt (kp0 S7) jO));have next:∀ (Hx:Hp) (x7 x10 x11 x12:Option V),KP H13 Hx→(∀ b kv,H13 b=some (.dK kv)→Hx b=some (.dK kv))→DU [some (.ref a),some (.ref s),some (.ref af),some (.str hd),some (.int c'),some y2,some (.ref D),x7,some (.int (0+((r:Nat):Int))),some (.ref M),x10,x11,x12] Hx:=by
        intro Hx x7 x10 x11 x12 kx dx;refine C1 _ _ ⟨kpt jO kx,⟨m12,kk12,⟨?_,pk13.hn,pk13.sc,pk13.ne,?_,pk13.len,pk13.hk,pk13.k0⟩,by omega⟩,dx _ _ hD13,_,_,_,_,_,_,rfl⟩
        · obtain⟨kv,z1,z2⟩:=pk13.st;exact⟨kv,dx _ _ z1,z2⟩
        · rcases pk13.sq with (z | ⟨ob,z⟩) | z
          · exact .inl (.inl (kx _ _ (fun _ z=>nomatch z) z))
          · exact .inl (.inr ⟨ob,kx _ _ (fun _ z=>nomatch z) z⟩)
          · exact .inr z
       refine⟨ef,fun W hW=>?_⟩;have k14:=smu (o:=HO.lst []) hW;have hW14:(upd H13 W (.lst [])) W=some (.lst []):=pG;generalize upd H13 W (.lst [])=H14 at k14 hW14 ⊢;refine CC _ _ (a0 fun Ey CB=>?_);refine⟨_,rfl,y2,d,rfl,te13.same k14,wf,by omega,fun L H15 zs fs s15 hLn hL15 tzs hfs hzl=>?_⟩;have hzl2:=tzs.length;have hW15:=s15 _ _ hW14;have LW:L≠W:=fun e=>by rw[e,hW14] at hLn;cases hLn
       refine⟨L,rfl,⟨_,SqL.of hL15⟩,?_⟩;show aw _ _ _ _ _ _;have hM15:=s15 _ _ (k14 _ _ hM13);refine aw.byN (aK (xs:=zs)) (fun i σ Hw=>bY W H15 Hw∧(∃ zw,Hw W=some (.lst zw)∧zw.length≤i)∧∃ x7 x12,σ=[some (.ref a),some (.ref s),some (.ref af),some (.str hd),some (.int c'),some y2,some (.ref D),x7,some (.int (0+((r:Nat):Int))),some (.ref M),some (.ref G),some (.ref W),x12])
        ⟨bY.of (ak.refl _),⟨[],hW15,Nat.le_refl _⟩,_,_,rfl⟩ (fun i σ Hw _ z=>SqL.of (z.1 _ _ LW hL15)) ?_ ?_
       · rintro i5 x σ Hw EI EL zZ EB hx ⟨sw,⟨zw,hWw,hzw⟩,x7w,x12w,rfl⟩;have hi5:i5<zs.length:=(gES.mp hx).1;obtain⟨dd,hdd,tx⟩:=(tzs.tk (sw.tk hW15)).get hx;rw[gEM] at hdd;obtain⟨is,his,rfl⟩:=oMS.mp hdd;have his3:=hfs is (mGE his);obtain⟨pa,xs5,rfl,hpa,hxs5⟩:=(show TD K Hw x (.tuple (is.map .int)) from tx).tup_of;obtain rfl:=gN hxs5;have MW:M≠W:=fun e=>by rw[e,hW] at hM13;cases hM13
         have hMw:=sw _ _ MW hM15;rw[aL];unfold v9 gl tOp tCB cP;rw[cj];refine⟨_,rfl,pa,rfl,⟨_,hpa⟩,fun U hU=>?_⟩;refine b6.by (bT (xs:=is.map V.int)) (fun j σ Hj=>ak Hw Hj∧Hj U=some (.lst ((is.take j).map fun i=>V.int (gK kvm i)))∧∃ y,σ=[y,some (.ref M)]) ⟨smu hU,pG,_,rfl⟩ (fun j σ Hj _ z=>z.1.seqT hpa) ?_ ?_
         · rintro j5 u σ Hj huj ⟨sj,hUj,y',rfl⟩;rw[gEM] at huj;obtain⟨i',hi',rfl⟩:=oMS.mp huj;rw[aL,df];have hmj:=sj _ _ hMw;refine bx ⟨_,rfl,M,rfl,.inl ⟨kvm,.inl hmj⟩,_,rfl,_,rfl,_,bR.k (k:=.inl i') hmj,_,hUj,by rw[lMp,lTk];omega,aG sj hU,?_,_,rfl⟩;rw[pG,tAO,hi',gc halm.int];simp
         rintro σ Hj ⟨sj,hUj,y',rfl⟩;rw[lMp,List.take_length] at hUj;refine⟨U,is.map (gK kvm),rfl,SqL.of (by rw[List.map_map];exact hUj),by rw[lMp];omega,fun kk=>?_⟩;refine⟨_,rfl,pa,_,rfl,.inr (sj.seqT hpa),_,_,rfl,rfl,_,rfl,?_⟩;have hWj:=sj _ _ hWw;by_cases hb:((kk:Nat):Int)<(((is.map V.int).length:Nat):Int)
         · refine pL (by simpa using hb) ?_;refine⟨_,rfl,.inl ⟨rfl,_,SqL.of hWj⟩,_,rfl,W,_,_,rfl,rfl,hWj,by omega,zZ _ _ ⟨fun b ob hb z=>?_,⟨_,pG,by rw[lAp];exact Nat.succ_le_succ hzw⟩,_,_,rfl⟩⟩;rw[a9 hb];exact sj _ _ (sw _ _ hb z)
         · refine pK (by simpa using hb) ?_;exact zZ _ _ ⟨fun b ob hb z=>sj _ _ (sw _ _ hb z),⟨_,hWj,Nat.le_succ_of_le hzw⟩,_,_,rfl⟩
       · rintro σ Hw ⟨sw,⟨zw,hWw,_⟩,x7w,x12w,rfl⟩;refine CB _ _ ?_;have S13:ak H13 Hw:=fun b ob z=>sw b ob (bh z hW) (s15 _ _ (k14 _ _ z));have fin:∀ (Hx:Hp) (x7 x10 x11 x12:Option V),ak H13 Hx→DU [some (.ref a),some (.ref s),some (.ref af),some (.str hd),some (.int c'),some y2,some (.ref D),x7,some (.int (0+((r:Nat):Int))),some (.ref M),x10,x11,x12] Hx:=fun Hx x7 x10 x11 x12 sx=>next Hx x7 x10 x11 x12 (kp0 sx) fun b kv z=>sx _ _ z;refine⟨_,rfl,ef,fun Z hZ=>?_⟩;have k16:=smu (o:=HO.lst []) hZ;have hZ16:(upd Hw Z (.lst [])) Z=some (.lst []):=pG;generalize upd Hw Z (.lst [])=H16 at k16 hZ16 ⊢;have S16:=S13.trans k16;refine⟨G,Z,zg,rfl,rfl,SqL.of (S16 _ _ hG13),SqL.of hZ16,_,rfl,?_⟩;by_cases eg:zg.isEmpty=true
         · refine pL eg ?_;refine⟨_,rfl,ef,fun Z2 hZ2=>?_⟩;have k17:=smu (o:=HO.lst []) hZ2;have hZ17:(upd H16 Z2 (.lst [])) Z2=some (.lst []):=pG;generalize upd H16 Z2 (.lst [])=H17 at k17 hZ17 ⊢;have S17:=S16.trans k17;refine⟨W,Z2,zw,rfl,rfl,SqL.of (k17 _ _ (k16 _ _ hWw)),SqL.of hZ17,_,rfl,?_⟩;by_cases ew:zw.isEmpty=true
           · refine pL ew ?_;refine⟨_,rfl,_,rfl,y2,M,d,kvm,rfl,te13.same S17,wf,S17 _ _ hM13,halm.int,by decide,by omega,fun b H18 s18 hb=>⟨_,rfl,?_⟩⟩;have S18:=S17.trans s18;cases b with
             | true=>exact pK (by decide) (fin _ _ _ _ _ S18)
             | false =>
              refine pL rfl ?_;refine⟨_,rfl,_,rfl,_,rfl,_,rfl,y2,M,d,_,kvm,rfl,te13.same S18,S18 _ _ hM13,halm.int,.ex 5 (by decide) wf (lyd.more (by decide)) rfl,fun vt H19 s19 t19=>⟨ee,fun u hu'=>?_⟩⟩;have k20:=smu (o:=HO.tup [.str hd,.int c',vt]) hu';refine can (g:=gK kvm) (.tup (SqT.of pG) (.cons (.str _) (.cons (.int _) (.cons (t19.same k20) .nil)))) (hb rfl) hgm fun t21 H21 s21 t21d=>?_;have S21:=S18.trans (s19.trans (k20.trans s21));exact⟨_,rfl,ne t21d (tv13.same S21) ⟨_,rfl,aZ (fin _ _ _ _ _ S21)⟩⟩
           · exact pK ew (aZ (fin _ _ _ _ _ S17))
         · exact pK eg (aZ (fin _ _ _ _ _ S16))
     · rintro σ Hr ⟨kpr,⟨mr,kr,pkr,hkr⟩,hDr,x7r,x8r,x9r,x10r,x11r,x12r,rfl⟩;rw[show (L2.bG 0 6).length=6 from bm 6] at hkr;have KPH:KP Hi Hr:=kpt (kp0 S3) (kpt kp7 kpr);refine hN_ _ _ ⟨⟨mr,kr,pkr,by omega⟩,?_,htdi.tk (kpk KPH),_,_,_,_,_,_,_,_,_,_,_,rfl⟩;exact hcf.tk (kpk KPH)
   · rintro σ Hi ⟨_,_,_,x2,x3,x4,x5,x6,x7,x8,x9,x10,x11,x12,rfl⟩;exact iq _ _ (q Hi)
end
def tQ (w:World) (es:List DictEntry) (vs:List (Key×Value)):Prop:=Paired (fun (e:DictEntry) (kv:Key×Value)=>∃ x t,kv.1=.inr x∧e.key=.str x t∧e.hash=hashStr w x∧e.val=kv.2) es vs
theorem lO {P:Program} {w:World} {es:List DictEntry} {vs:List (Key×Value)} (h:tQ w es vs):Pairs (ax P w) es vs:=by
 induction (show Paired _ es vs from h) with
 | nil=>exact .nil
 | cons z r ih =>
  obtain⟨x,t,e1,e2,e3,e4⟩:=z;exact .cons (by rw[e1,e2];exact dY P w x t) e4 (ih r)
theorem o8 {P:Program} {w:World} {es:List DictEntry} {vs:List (Key×Value)} (h:tQ w es vs):∀ e∈es,∃ k,(ax P w).is k e.key=true∧e.hash=(ax P w).hash k:=by
 induction (show Paired _ es vs from h) with
 | nil=>exact fun e h=>by cases h
 | cons z r ih =>
  intro e h;obtain⟨x,t,e1,e2,e3,e4⟩:=z
  rcases List.mem_cons.mp h with rfl | h
  · exact⟨.inr x,by rw[e2];exact dY P w x t,e3⟩
  · exact ih r e h
theorem isd {P:Program} {w:World} {es:List DictEntry} {vs:List (Key×Value)} {ep:Nat} (h:tQ w es vs) (nd:(vs.map (·.1)).Nodup):Obj.IsDictOf (ax P w) {cls:=.type "dict",dict:=none,data:=.dict es.toArray ep,slots:=#[]} vs :=
 ⟨es.toArray,ep,⟨rfl,rfl,rfl⟩,rfl,fun e he=>o8 h e (List.mem_toArray.mp he),lO h,nd⟩
theorem lg {zs:List Str} {its:Array Value} (v:aQ (zs.map V.str) its.toList) (h:zs.length≤50):its.size≤sizeLine:=by
 have e:=v.length;rw[lMp] at e;have e2:its.toList.length=its.size:=Array.length_toList;have:(50:Nat)≤sizeLine:=by decide
 lia
def xg (K:Fg):List Row→Prop
  | []=>True
  | e::r=>K.lookup e.2.2.1=some (FT (e.2.2.2.map fun s=>.str s.1 s.2))∧xg K r
def kvE (es:List Row):List (Key×V):=es.map fun e=>(.inr e.1,.ref e.2.2.1)
def vaE (es:List Row):List (Key×Value):=es.map fun e=>(.inr e.1,.ref e.2.2.1)
theorem jT:∀ (l:List (Str×Nat)),aQ ((l.map Prod.fst).map V.str) (l.map fun s=>Value.str s.1 s.2):=by
 intro l
 induction l with
 | nil=>exact .nil
 | cons a r ih=>exact .cons ⟨a.2,rfl⟩ ih
theorem vC {K:Fg}:∀ {es:List Row},xg K es→(es.map (·.1)).Nodup→∀ k sl,(k,sl)∈(es.map fun e=>(e.1,e.2.2.2.map Prod.fst))→∃ (r:Addr) (l:List (Str×Nat)),bP (kvE es) (.inr k)=some (.ref r)∧l.map Prod.fst=sl∧K.lookup r=some (FT (l.map fun s=>.str s.1 s.2)):=by
 intro es
 induction es with
 | nil=>exact fun _ _ k sl h=>absurd h nMN
 | cons e r ih =>
  intro ha nd k sl h;obtain⟨n1,n2⟩:=List.nodup_cons.mp nd
  rcases List.mem_cons.mp h with h | h
  · cases h;refine⟨e.2.2.1,e.2.2.2,?_,rfl,ha.1⟩;show (List.find? _ ((_,_)::_)).map _=_;rw[List.find?_cons_of_pos (by simp)];rfl
  · obtain⟨r',l,h1,h2,h3⟩:=ih ha.2 n2 k sl h;refine⟨r',l,?_,h2,h3⟩;have ne:e.1≠k:=fun c=>n1 (by
      obtain⟨e',he',q⟩:=List.mem_map.mp h;exact List.mem_map.mpr ⟨e',he',(congrArg Prod.fst q).trans c.symm⟩)
    show (List.find? _ ((_,_)::_)).map _=_;rw[List.find?_cons_of_neg (by simpa using ne)];exact h1
theorem rL {P:Program} {w:World} {K:Fg} {mg:SOV} {aR:Addr} {ep:Nat} (es:List Row) (hm:mg "SLOTS"=some (.ref aR)) (hR:K.lookup aR=some (FD w.params (es.map vD) ep)) (sR:(aR==sysModules)=false) (ht:xg K es) (e0:(es.map fun e=>(e.1,e.2.2.2.map Prod.fst))=P10.tbl) (hn:(es.map (·.1)).Nodup) (hw:∀ e∈es,e.2.2.2.length≤50):Glb P w K mg:=by
 have en:∀ l:List Row,tQ w ((l.map vD).map fun x=>(⟨PyData.keyHash w.params x.1,.str x.1 x.2.1,x.2.2⟩:DictEntry)) (vaE l):=by
  intro l
  induction l with
  | nil=>exact .nil
  | cons e r ih=>exact .cons ⟨e.1,e.2.1,rfl,rfl,rfl,rfl⟩ ih
 have ek:∀ l:List Row,KV (kvE l) (vaE l):=by
  intro l
  induction l with
  | nil=>exact .nil
  | cons e r ih=>exact .cons ⟨rfl,rfl⟩ ih
 have nv:((vaE es).map (·.1)).Nodup:=by
  unfold vaE;rw[List.map_map];show (es.map ((Sum.inr:Str→Key)∘fun e=>e.1)).Nodup;rw[← List.map_map];refine List.pairwise_map.mpr (hn.imp ?_);exact fun h c=>h (Sum.inr.inj c)
 refine⟨aR,kvE es,hm,⟨_,vaE es,hR,isd (en es) nv,ek es,sR⟩,fun k sl h=>?_⟩;rw[← e0] at h;obtain⟨r,l,h1,h2,h3⟩:=vC ht hn k sl h;have hl:l.length≤50:=by
  obtain⟨e,he,q⟩:=List.mem_map.mp h;have:=hw e he;have q2:=congrArg (List.length∘Prod.snd) q;have q3:=congrArg List.length h2;simp at q2 q3;omega
 refine⟨r,h1,fun H=>.inr ⟨_,_,0,h3,rfl,rfl,?_,?_⟩⟩
 · exact lg (zs:=l.map Prod.fst) (jT l) (by rw[lMp];exact hl)
 · rw[← h2];exact jT l
theorem aO {K:Fg} {h:Heap} {mg:SOV} {x:Str} {st:Stmt} {f:Addr} {oc:Value} {od an:Option Addr} {osl:Array (Option Value)} {kV doc pm cdv ct:Value} (X:K.In h) (G:h.Ns mainGlobals mg)
 (a:PySem.W.nsIn K mainGlobals x=some (some (.ref f))) (l:K.lookup f=some ⟨oc,od,.func (PySem.W.fnOf x x (cG st) (aW st) (a7 st) .none kV doc pm an cdv ct),osl⟩)
 (c:PySem.W.codeIn K cdv x=true) (k:PySem.W.keepIn K (.ref f)=true):Def K mg x st:=⟨f,_,qz l c k,PySem.W.mg_of X G a⟩
theorem wR {l:PySem.W.OpenLaw} {w:World} {K:Fg} {h:Heap} {mg:SOV} {fa fl:Addr} (X:K.In h) (G:h.Ns mainGlobals mg) (hfa:mg "law"=some (.ref fa)) (C:Glb l.prog w K mg) (T:Blt mg) (kd:mW K) (hd:mg "dict"=none) (hs:mg "set"=none) (he:mg "enumerate"=none)
 (dCh:Def K mg "children_of" sCh) (dWc:Def K mg "with_children" sWc) (dBb:Def K mg "bound_by" sBb) (dWi:Def K mg "with_ids" sWi) (dTo:Def K mg "taken_off" sTo) (dRb:Def K mg "rebuilt" sRb) (dSc:Def K mg "scoped_children" sSc) (dWe:Def K mg "with_entries" sWe) (dCa:Def K mg "canon" sCa) (dDraw:Def K mg "_law_draw" gW) (dPk:Def K mg "_law_pick" sPk) (dNm:Def K mg "_law_name" sNm) (dUn:Def K mg "_law_unlike" sUn) (dFo:Def K mg "_law_form" sFo) (dHe:Def K mg "_law_heads" sHe) (dMt:Def K mg "_law_meant" sMt) (dCo:Def K mg "_law_choices" sCo) (dLy:Def K mg "_law_lay" sLy) (dTl:Def K mg "_law_tell" sTl) (dSn:Def K mg "_law_seen" sSn) (dBd:Def K mg "_law_bind" sBd) (dEx:Def K mg "_law_expr" sEx) (dNb:Def K mg "_law_number" sNb) (dIn:Def K mg "_law_inner" sIn) (dSo:Def K mg "_law_some" sSo) (dBo:Def K mg "_law_bound" sBo) (dNa:Def K mg "_law_named" sNa) (dRe:Def K mg "_law_record" sRe) (dPl:Def K mg "_law_plain" sPl) (dFu:Def K mg "_law_fun" sFu) (dFi:Def K mg "_law_fill" sFi) (dMa:Def K mg "_law_made" sMa) (dLp:Def K mg "_law_parts" sLp) (dLb:Def K mg "_law_bound_ids" sLb) (dMx:Def K mg "_law_met" sMx) (dHd:Def K mg "_law_hides" sHd) (dLt:Def K mg "_law_turned" sLt) (dAf:Def K mg "_law_all_funs" sAf)
 {od an:Option Addr} {osl:Array (Option Value)} {oc kV doc pm cdv ct:Value} (a1:PySem.W.nsIn K mainGlobals "law"=some (some (.ref fl))) (l1:K.lookup fl=some ⟨oc,od,.func (PySem.W.fnOf "law" "law" (cG gU) (aW gU) (a7 gU) .none kV doc pm an cdv ct),osl⟩) (c1:PySem.W.codeIn K cdv "law"=true) (k1:PySem.W.keepIn K (.ref fl)=true) :
 ∃ fd:FuncData,(∀ (s:Shared) (v:Value),BindsTo s fd ⟨[v],[]⟩ [("_law_script",v)])∧∀ base:Heap,K.In base→base.Ns mainGlobals mg→iM l.prog w K mg base CX0 33 fa fd ["_law_script"] (mv K):=by
 cases hfa.symm.trans (PySem.W.mg_of X G a1);have FL:=qz (st:=gU) l1 c1 k1;refine⟨PySem.W.fnOf "law" "law" (cG gU) (aW gU) (a7 gU) .none kV doc pm an cdv ct,fun s v=>.of_eq rfl,fun base _ _=>?_⟩;have fCh:=zF (P:=l.prog) (w:=w) (base:=base) dCh T C;have fWc:=yV (P:=l.prog) (w:=w) (base:=base) dWc T C;have fBb:=zJ (P:=l.prog) (w:=w) (base:=base) dBb T;have fWi:=yT (P:=l.prog) (w:=w) (base:=base) dWi T C;have fTo:=yX (P:=l.prog) (w:=w) (base:=base) dTo T;have fRb:=zb (P:=l.prog) (w:=w) (base:=base) dRb T fCh fWc fTo;have fSc:=z9 (P:=l.prog) (w:=w) (base:=base) dSc T he fCh;have fWe:=yU (P:=l.prog) (w:=w) (base:=base) dWe T hd;have fCa:=zG (P:=l.prog) (w:=w) (base:=base) dCa T fBb fWi fSc fWe fRb;have fDraw:=sF (P:=l.prog) (w:=w) (base:=base) dDraw T;have fPk:=ze (P:=l.prog) (w:=w) (base:=base) dPk T fDraw;have fNm:=zf (P:=l.prog) (w:=w) (base:=base) dNm T fPk;have fUn:=yW (P:=l.prog) (w:=w) (base:=base) dUn T fPk fNm;have fFo:=zB (P:=l.prog) (w:=w) (base:=base) dFo T fPk fUn;have fHe:=zx (P:=l.prog) (w:=w) (base:=base) dHe T fPk fFo;have fMt:=zm (P:=l.prog) (w:=w) (base:=base) dMt;have fCo:=zE (P:=l.prog) (w:=w) (base:=base) dCo fMt;have fLy:=zo (P:=l.prog) (w:=w) (base:=base) dLy T;have fTl:=yY (P:=l.prog) (w:=w) (base:=base) dTl;have fSn:=z8 (P:=l.prog) (w:=w) (base:=base) dSn T;have fBd:=zI (P:=l.prog) (w:=w) (base:=base) dBd T fTl fLy;have fNb:=zh (P:=l.prog) (w:=w) (base:=base) dNb T fPk fLy;have fEx:Fn l.prog w K mg base "_law_expr" 30 dN (kc l.prog w K 5):=vX (P:=l.prog) (w:=w) (base:=base) ⟨dEx,dIn,dSo,dBo,dNa,dRe,dPl,dFu⟩ T (pkX fPk) (lyX fLy) (tlX fTl) (snX fSn) (nbX fNb) (nmX fNm) (bdX fBd) (coX fCo) (unX fUn) 5;have fFi:=zC (P:=l.prog) (w:=w) (base:=base) dFi T (pkX fPk) (lyX fLy) (tlX fTl) (bdX fBd) fEx;have fMa:=zn (P:=l.prog) (w:=w) (base:=base) dMa T fPk fHe fFi;have fLb:=zt (P:=l.prog) (w:=w) (base:=base) dLb;have fLp:=zq (P:=l.prog) (w:=w) (base:=base) dLp T kd;exact vW FL T hd hs fMa fPk (vZ dAf T fLp 5) (zy dHd T (vS dMx T fLp fLb 5)) (vU dLt T kd 11) fCa
theorem Bg {l:PySem.W.OpenLaw} {q:Program} {loose:List Str} {XP:(Str→Option Value)→Heap→Prop} {YP:World→Heap→Prop} {d:DefRec} {K:Params→Fg} (hn:l.most=some 63) (hdf:d.params.defaults=[])
 (hY:∀ (w:World) (h:Heap),YP w h→(K w.params).In h)
 (F:∀ (w:World) (mg:SOV) (fa:Addr) (h:Heap),(K w.params).In h→h.Ns mainGlobals mg→mg d.name=some (.ref fa) →
   ∃ fd:FuncData,(∀ (s:Shared) (u:Value),BindsTo s fd ⟨[u],[]⟩ [("_law_script",u)])∧∀ base:Heap,(K w.params).In base→base.Ns mainGlobals mg→iM l.prog w (K w.params) mg base CX0 33 fa fd ["_law_script"] (mv (K w.params))) :
 PySem.W.WalkO q loose XP YP l.row.toRowW d [] (fun f vs=>PySem.call f vs) :=
 L2.mh (n:=63) (k:=33) (x:="_law_script") (CX:=fun _=>CX0) (sp:=fun w=>mv (K w.params)) hn (by decide) hdf ⟨rfl,by decide,by decide,rfl⟩ hY F (fun _ _ a ns hl _ hS=>⟨a,ns,rfl,hS,hl,fun _=>rfl⟩) fun _ _ _ _ _ z=>z
theorem lk {K:Fg} {f:Addr} (x:Str) (i:Nat) (m:Value) (c:Nat) (h:K.lookup f=some (FF x i m c)):K.lookup f=some ⟨.type "function",none,.func (PySem.W.fnOf x x (cG (top i)) (aW (top i)) (a7 (top i)) .none .none .none m none (.ref c) .none),#[]⟩:=h
end K12
open PySem PySem.W PyProof.Rows
set_option maxRecDepth 100000 in
set_option maxHeartbeats 0 in
theorem PySem.Challenge.cw_turnsame_k12_canonical_ids_holds : PySem.Challenge.rw_turnsame_k12_canonical_ids.Holds := by
 refine K12.preH fun d hdn hdd=>K12.Bg (l:=PySem.Challenge.rw_turnsame_k12_canonical_ids) rfl hdd (fun w h Y=>PySem.W.kIn_of Y) ?F
 case F =>
  intro w mg fa h X G hmg;rw[hdn] at hmg;have none_:∀ {x:Str},PySem.W.nsIn (K12.KF w.params) mainGlobals x=some none→mg x=none:=fun e=>PySem.W.mg_none_of X G e;refine K12.wR X G hmg (K12.rL (ep:=17) K12.SL (PySem.W.mg_of X G (show _=some (some (Value.ref 15)) by kernel_rfl)) (by kernel_rfl) (by decide) (by repeat' (first | exact trivial | refine⟨by kernel_rfl,?_⟩)) (by kernel_rfl) (by decide +kernel) (by decide +kernel)) ⟨none_ (by kernel_rfl),none_ (by kernel_rfl),none_ (by kernel_rfl),none_ (by kernel_rfl),none_ (by kernel_rfl),none_ (by kernel_rfl),none_ (by kernel_rfl),none_ (by kernel_rfl)⟩ ⟨by kernel_rfl,by kernel_rfl,by kernel_rfl,by kernel_rfl⟩ (none_ (by kernel_rfl)) (none_ (by kernel_rfl)) (none_ (by kernel_rfl))
   (K12.aO (f:=39) X G (by kernel_rfl) (K12.lk "children_of" 2 K12.M0 38 (by kernel_rfl)) (by kernel_rfl) (by kernel_rfl))
   (K12.aO (f:=46) X G (by kernel_rfl) (K12.lk "with_children" 3 K12.M0 45 (by kernel_rfl)) (by kernel_rfl) (by kernel_rfl))
   (K12.aO (f:=53) X G (by kernel_rfl) (K12.lk "bound_by" 4 K12.M0 52 (by kernel_rfl)) (by kernel_rfl) (by kernel_rfl))
   (K12.aO (f:=60) X G (by kernel_rfl) (K12.lk "with_ids" 5 K12.M0 59 (by kernel_rfl)) (by kernel_rfl) (by kernel_rfl))
   (K12.aO (f:=67) X G (by kernel_rfl) (K12.lk "taken_off" 6 K12.M0 66 (by kernel_rfl)) (by kernel_rfl) (by kernel_rfl))
   (K12.aO (f:=74) X G (by kernel_rfl) (K12.lk "rebuilt" 7 K12.M0 73 (by kernel_rfl)) (by kernel_rfl) (by kernel_rfl))
   (K12.aO (f:=79) X G (by kernel_rfl) (K12.lk "scoped_children" 8 K12.M0 78 (by kernel_rfl)) (by kernel_rfl) (by kernel_rfl))
   (K12.aO (f:=86) X G (by kernel_rfl) (K12.lk "with_entries" 9 K12.M0 85 (by kernel_rfl)) (by kernel_rfl) (by kernel_rfl))
   (K12.aO (f:=93) X G (by kernel_rfl) (K12.lk "canon" 10 K12.M0 92 (by kernel_rfl)) (by kernel_rfl) (by kernel_rfl))
   (K12.aO (f:=100) X G (by kernel_rfl) (K12.lk "_law_draw" 12 K12.M1 99 (by kernel_rfl)) (by kernel_rfl) (by kernel_rfl))
   (K12.aO (f:=107) X G (by kernel_rfl) (K12.lk "_law_pick" 13 K12.M1 106 (by kernel_rfl)) (by kernel_rfl) (by kernel_rfl))
   (K12.aO (f:=114) X G (by kernel_rfl) (K12.lk "_law_name" 14 K12.M1 113 (by kernel_rfl)) (by kernel_rfl) (by kernel_rfl))
   (K12.aO (f:=121) X G (by kernel_rfl) (K12.lk "_law_unlike" 15 K12.M1 120 (by kernel_rfl)) (by kernel_rfl) (by kernel_rfl))
   (K12.aO (f:=126) X G (by kernel_rfl) (K12.lk "_law_form" 16 K12.M1 125 (by kernel_rfl)) (by kernel_rfl) (by kernel_rfl))
   (K12.aO (f:=133) X G (by kernel_rfl) (K12.lk "_law_heads" 17 K12.M1 132 (by kernel_rfl)) (by kernel_rfl) (by kernel_rfl))
   (K12.aO (f:=138) X G (by kernel_rfl) (K12.lk "_law_meant" 18 K12.M1 137 (by kernel_rfl)) (by kernel_rfl) (by kernel_rfl))
   (K12.aO (f:=145) X G (by kernel_rfl) (K12.lk "_law_choices" 19 K12.M1 144 (by kernel_rfl)) (by kernel_rfl) (by kernel_rfl))
   (K12.aO (f:=152) X G (by kernel_rfl) (K12.lk "_law_lay" 20 K12.M1 151 (by kernel_rfl)) (by kernel_rfl) (by kernel_rfl))
   (K12.aO (f:=159) X G (by kernel_rfl) (K12.lk "_law_tell" 21 K12.M1 158 (by kernel_rfl)) (by kernel_rfl) (by kernel_rfl))
   (K12.aO (f:=164) X G (by kernel_rfl) (K12.lk "_law_seen" 22 K12.M1 163 (by kernel_rfl)) (by kernel_rfl) (by kernel_rfl))
   (K12.aO (f:=171) X G (by kernel_rfl) (K12.lk "_law_bind" 23 K12.M1 170 (by kernel_rfl)) (by kernel_rfl) (by kernel_rfl))
   (K12.aO (f:=176) X G (by kernel_rfl) (K12.lk "_law_expr" 24 K12.M1 175 (by kernel_rfl)) (by kernel_rfl) (by kernel_rfl))
   (K12.aO (f:=183) X G (by kernel_rfl) (K12.lk "_law_number" 25 K12.M1 182 (by kernel_rfl)) (by kernel_rfl) (by kernel_rfl))
   (K12.aO (f:=190) X G (by kernel_rfl) (K12.lk "_law_inner" 26 K12.M1 189 (by kernel_rfl)) (by kernel_rfl) (by kernel_rfl))
   (K12.aO (f:=197) X G (by kernel_rfl) (K12.lk "_law_some" 27 K12.M1 196 (by kernel_rfl)) (by kernel_rfl) (by kernel_rfl))
   (K12.aO (f:=204) X G (by kernel_rfl) (K12.lk "_law_bound" 28 K12.M1 203 (by kernel_rfl)) (by kernel_rfl) (by kernel_rfl))
   (K12.aO (f:=211) X G (by kernel_rfl) (K12.lk "_law_named" 29 K12.M1 210 (by kernel_rfl)) (by kernel_rfl) (by kernel_rfl))
   (K12.aO (f:=218) X G (by kernel_rfl) (K12.lk "_law_record" 30 K12.M1 217 (by kernel_rfl)) (by kernel_rfl) (by kernel_rfl))
   (K12.aO (f:=225) X G (by kernel_rfl) (K12.lk "_law_plain" 31 K12.M1 224 (by kernel_rfl)) (by kernel_rfl) (by kernel_rfl))
   (K12.aO (f:=230) X G (by kernel_rfl) (K12.lk "_law_fun" 32 K12.M1 229 (by kernel_rfl)) (by kernel_rfl) (by kernel_rfl))
   (K12.aO (f:=235) X G (by kernel_rfl) (K12.lk "_law_fill" 33 K12.M1 234 (by kernel_rfl)) (by kernel_rfl) (by kernel_rfl))
   (K12.aO (f:=240) X G (by kernel_rfl) (K12.lk "_law_made" 34 K12.M1 239 (by kernel_rfl)) (by kernel_rfl) (by kernel_rfl))
   (K12.aO (f:=247) X G (by kernel_rfl) (K12.lk "_law_parts" 35 K12.M1 246 (by kernel_rfl)) (by kernel_rfl) (by kernel_rfl))
   (K12.aO (f:=254) X G (by kernel_rfl) (K12.lk "_law_bound_ids" 36 K12.M1 253 (by kernel_rfl)) (by kernel_rfl) (by kernel_rfl))
   (K12.aO (f:=261) X G (by kernel_rfl) (K12.lk "_law_met" 37 K12.M1 260 (by kernel_rfl)) (by kernel_rfl) (by kernel_rfl))
   (K12.aO (f:=266) X G (by kernel_rfl) (K12.lk "_law_hides" 38 K12.M1 265 (by kernel_rfl)) (by kernel_rfl) (by kernel_rfl))
   (K12.aO (f:=271) X G (by kernel_rfl) (K12.lk "_law_turned" 39 K12.M1 270 (by kernel_rfl)) (by kernel_rfl) (by kernel_rfl))
   (K12.aO (f:=278) X G (by kernel_rfl) (K12.lk "_law_all_funs" 40 K12.M1 277 (by kernel_rfl)) (by kernel_rfl) (by kernel_rfl))
   (fl:=283) (by kernel_rfl) (K12.lk "law" 41 K12.M1 282 (by kernel_rfl)) (by kernel_rfl) (by kernel_rfl)
