import PyProof.Rows.All
import KE.KDictOf
import KE.KFromBytes
import KE.KIntText
import KE.KIsAll
import KE.KRevSl
import KE.KSortTup
import KE.KPairComp
import PySem.Challenge.RW_turnsame_k13_right_cores
noncomputable section
set_option compiler.extract_closed false
set_option hygiene false
set_option maxRecDepth 100000
set_option maxHeartbeats 0
local macro_rules
|`(?A)=>`((by omega))
|`(?B)=>`((by simp))
|`(?C)=>`((pv 0))
|`(?D)=>`((Or.inl U))
|`(?E)=>`((pv 1))
|`(?G)=>`((by decide))
|`(?H)=>`((λ_ _=>rfl))
|`(?I)=>`((aj ae (pv 0) pG (λ_ _=>rfl)))
|`(?J)=>`(((i:Nat):Int))
|`(?K)=>`((by rfl))
|`(?L)=>`((model prog w))
|`(?M)=>`((Nat.le_refl _))
|`(?N)=>`((model X.prog X.w))
|`(?O)=>`((pH (ak bf)))
local macro_rules
|`(?P)=>`((λvs H Q E h=>?_))
|`(?Q)=>`((by simp;omega))
|`(?R)=>`(((c:Nat):Int))
|`(?S)=>`((hr.mono ?G))
|`(?T)=>`(⟨_,U,U,_,U,?_⟩)
|`(?U)=>`((false,eval e X.env))
|`(?V)=>`((.ref s.heap.objs.size))
|`(?W)=>`((cz X.env.cells sc.names []))
|`(?X)=>`((λf kb A outer s H vs Q E hr h=>?_))
|`(?Y)=>`((aB az (hr.mono ?A) U (pA (pv 0) (pA pG pC))))
|`(?Z)=>`((pA (pv 1) (pA (pv 2) (pA (pv 3) (pA (pv 4) pC)))))
|`(?Aa)=>`((blk X sc ?W (dI own outs) fp pins s H))
|`(?Ab)=>`(((s.heap.push (seqObj "list" #[] 0)).update s.heap.objs.size (Obj.mapSeq (·++a.toArray))))
|`(?Ac)=>`((("record function deep open let var set do if while each say fault add sub mul div less same":Str)++(" at not size row new get fun apply":Str)))
local macro_rules
|`(?Ad)=>`((@b0 _ _ _ _ _ _ _ _ _ pD pG (@b0 _ _ _ _ _ _ _ _ _ pD pG (@b0 _ _ _ _ _ _ _ _ _ pD pG (@b0 _ _ _ _ _ _ _ _ _ pD pG (@b0 _ _ _ _ _ _ _ _ _ pD pG (@b0 _ _ _ _ _ _ _ _ _ pD pG (@b0 _ _ _ _ _ _ _ _ _ pD pG (@b0 _ _ _ _ _ _ _ _ _ pD pG iR)))))))))
|`(?Ae)=>`(((backTo i (starEach [e] X.env)).all (λx=>!x.1)&&(backToKw i (keywordEach [] X.env)).all (λx=>x.1.isSome)&&decide ([e].length+([]:List Keyword).length+(if ([]:List Keyword).isEmpty then 0 else 1)<30)))
local macro_rules|`(tactic|right)=>`(tactic|kernel_rfl)
local macro_rules|`(tactic|omega)=>`(tactic|lia)
local macro_rules|`(tactic|left)=>`(tactic|decide +kernel)
local macro_rules
|`(tactic|ext a)=>`(tactic|(show wpAny _ _ (field (.ref i) 0>>=_) _ _ s;refine wB (wpAny_field c b (x:=.ref t) U ?_);show wpAny _ _ (if (Value.ref t==Value.none)=true then _ else _) _ _ s;rw[if_neg (λz=>Bool.false_ne_true (show (Value.ref t==Value.none)=true from z))];show wpAny _ _ (field (.ref i) 1>>=_) _ _ s;refine wB (wpAny_field c b (x:=.int k 0) U ?_);show wpAny _ _ (seqItems? (.ref t)>>=_) _ _ s;refine wB (wpAny_seqItems e g ?_);simp only[Int.toNat_natCast,I]))
|`(tactic|ext b)=>`(tactic|(dsimp only[df,dj,di]))
|`(tactic|ext c)=>`(tactic|(have Iq:1000000<sizeLine:=by decide))
|`(tactic|ext d)=>`(tactic|(have Iq:(1000000:Nat)<sizeLine:=by decide))
|`(tactic|ext e)=>`(tactic|(rcases List.mem_cons.mp a with rfl | a))
|`(tactic|ext f)=>`(tactic|(unfold pyNext;refine wB (wpAny_attempt (wpAny_callSpecial?_slot j bA (wpAny_call_entry bA j eJ ?_ (fc _))));unfold Builtin.«set_iterator.__next__»))
|`(tactic|ext g)=>`(tactic|(refine fin D s3.heap.objs.size m6 H5 s6 I7 (by rw[<- yl];exact hn6) (by rw[<- yl];exact I6.free) (Nat.ne_of_lt I3.lt) I3.sz (λx c e=>?_) (λp hp=>Nat.ne_of_lt (Heap.lt_size (I3.pin p hp).1)) q;obtain⟨v,o,z,_⟩:=I3.cell x c e;exact Nat.ne_of_lt (Heap.lt_size z)))
|`(tactic|ext h)=>`(tactic|(refine fC _ _ (ab λmy gH=>?_)))
|`(tactic|ext i)=>`(tactic|(have kt:=smu (o:=HO.tup [V.str "op",V.str wd,v]) ht;exact q _ (.tuple [.str "op",.str wd,.tuple ds]) k7 Iv _ (x7.same kt) (M7.same kt) IO (.tup (SqT.of pF) (.cons (.str _) (.cons (.str _) (.cons (tv.same kt) .nil)))) (Bd Jx ms ?A ?A ?A hn2)))
|`(tactic|ext j)=>`(tactic|(obtain⟨v,d,rfl,_⟩:=h;rfl))
|`(tactic|ext l)=>`(tactic|(have dg:=dC.k (H:=H1) (a:=pd) (k:=.inr z) IK;rw[W] at dg;refine⟨_,U,pd,U,.inl ⟨_,.inl IK⟩,_,U,a,_,1,_,U,U,g.seqT B,pI (j:=1) U,1,U,_,dg,_,U,a,_,2,_,U,U,g.seqT B,pI (j:=2) U,aq,xq,U,.inr (g.seqT JR),U,_,U,?_⟩;rw[hql]))
|`(tactic|ext m)=>`(tactic|(rw[Heap.get?_update_ne _ _ _ _ (Nat.ne_of_lt (Heap.lt_size g))];exact hpS _ g))
|`(tactic|ext n)=>`(tactic|(subst e;obtain⟨o,e,c,d⟩:=f;exact⟨o,e,λv z=>by rw[d] at z;cases z⟩))
|`(tactic|ext o)=>`(tactic|(refine⟨t,_,U,SqT.of pF,U,_,_,U,_,_,U,U,?_⟩))
local macro_rules
|`(tactic|ext p)=>`(tactic|(refine toF (thn (hg _ s7 σ5 H7 x u _ I7' r7 (step x H7 y7)) λ_ s8 zz100=>?_);obtain⟨σ8,H8,I8,q8⟩:=zz100;refine toF (thn (KE _ s8 σ8 H8 _ I8 q8) λok s9 zz101=>?_);obtain⟨H9,I9,q9⟩:=zz101))
|`(tactic|ext q)=>`(tactic|(refine f9 _ _ (ab λjx fC=>?_)))
|`(tactic|ext r)=>`(tactic|(show _<=8*wb m+12;omega))
|`(tactic|ext s)=>`(tactic|(rw[show a.toArray.any (eqU x)=a.any (eqU x) by simp,kK r fs];exact q))
def U {a:α}:a=a:=Eq.refl a
abbrev Fg := PySem.W.Frag
abbrev VSP := PySem.Value -> PySem.Shared -> Prop
abbrev AOs := List (PySem.Addr × PySem.Obj)
abbrev SOV := PySem.Str -> Option PySem.Value
abbrev PDs := List PySem.PyData
abbrev wB := @PySem.wpAny_bind
abbrev wP := @PySem.wpAny_pure
abbrev hpS := @PySem.Heap.get?_push_of_some
def lMp {α β:Type} {f:α->β} {l:List α}:(l.map f).length=l.length:=List.length_map ..
def gES {α:Type} {l:List α} {a:α}:l[i]?=some a↔∃ h:i<l.length,l[i]=a:=List.getElem?_eq_some_iff
def gEE {α:Type} {l:List α} (h:i<l.length):l[i]?=some l[i]:=List.getElem?_eq_getElem h
def gEM {α β:Type} {f:α->β} {l:List α} {i:Nat}:(l.map f)[i]?=Option.map f l[i]?:=List.getElem?_map ..
def mGE {α:Type} {l:List α} {i:Nat} {a:α} (h:l[i]?=some a):a∈l:=List.mem_of_getElem? h
def mCS {α:Type} {a:α} {l:List α}:a∈a::l:=List.mem_cons_self
def mCM {α:Type} (y:α) {a:α} {l:List α} (h:a∈l):a∈y::l:=List.mem_cons_of_mem y h
def mAp {α:Type} {a:α} {s t:List α}:a∈s++t↔a∈s\/a∈t:=List.mem_append
def mSg {α:Type} {a b:α}:a∈[b]↔a=b:=List.mem_singleton
def oMS {α β:Type} {f:α->β} {x:Option α} {b:β}:x.map f=some b↔∃ a,x=some a/\f a=b:=Option.map_eq_some_iff
def nMN {α:Type} {a:α}:a∉([]:List α):=List.not_mem_nil
def tAO {α:Type} {l:List α}:l.take (i+1)=l.take i++l[i]?.toList:=List.take_add_one
def lAp {α:Type} {l m:List α}:(l++m).length=l.length+m.length:=List.length_append ..
def lTk {α:Type} {l:List α}:(l.take i).length=min i l.length:=List.length_take ..
set_option compiler.extract_closed false
set_option Elab.async false
set_option linter.all false
set_option maxRecDepth 100000
namespace L2
open PySem PySem.Spec PyProof.Rows
def _root_.jl:0<=PySem.sizeLine:=by decide
def _root_.v3:1<=PySem.sizeLine:=by decide
def _root_.jk:2<=PySem.sizeLine:=by decide
def _root_.ma:3<=PySem.sizeLine:=by decide
def _root_.Bc:4<=PySem.sizeLine:=by decide
def _root_.Hs:5<=PySem.sizeLine:=by decide
def _root_.HC:6<=PySem.sizeLine:=by decide
def _root_.FU:11<=PySem.sizeLine:=by decide
def _root_.FQ:14<=PySem.sizeLine:=by decide
def du (s:Stmt):Arguments:=match s with
  | .FunctionDef _ a _ _ _ _ _ _ _ _=>a
  | _=>{posonlyargs:=[],args:=[],vararg:=none,kwonlyargs:=[],kw_defaults:=[],kwarg:=none,defaults:=[]}
def bW (s:Stmt):List Stmt:=match s with
  | .FunctionDef _ _ b _ _ _ _ _ _ _=>b
  | _=>[]
def ad (s:Stmt):Scope:=match s with
  | .FunctionDef _ _ _ _ _ _ sc _ _ _=>sc
  | _=>{kind:=.function,names:=[],isGenerator:=false,isCoroutine:=false}
end L2
namespace K13
open PySem L2 PySem.Spec PyProof.Rows PySem.SeqAt
def top (i:Nat):Stmt:=PySem.Challenge.pw_turnsame_k13_right_cores.main.body.getD i (.Pass ⟨0,0,0,0⟩)
def FT (l:List Value):Obj:={cls:=.type "tuple",data:=.seq l.toArray}
def FC (l:List Value):Obj:={cls:=.type "code",data:=.fields l.toArray}
def Fe (x:Str) (t:Nat) (v:Value):Str×Nat×Value:=(x,t,v)
def FD (P:Params) (l:List (Str×Nat×Value)) (ep:Nat):Obj:={cls:=.type "dict",data:=.dict (l.map λx=>(⟨PyData.keyHash P x.1,.str x.1 x.2.1,x.2.2⟩:DictEntry)).toArray ep}
abbrev Row:=Str×Nat×Addr×List Value
def u5 (e:Row):Str×Nat×Value:=Fe e.1 e.2.1 (.ref e.2.2.1)
def M0:Value:=.str "turnsame.words" 187
def M1:Value:=.str "turnsame.forms" 230
def M2:Value:=.str "turnsame.rings" 295
def M3:Value:=.str "turnsame.kinds" 322
def M4:Value:=.str "turnsame.slots" 348
def M5:Value:=.str "turnsame.cores" 457
def M6:Value:=.str "law_turnsame_k13_right_cores" 562
def FF (x q:Str) (st:Stmt) (m:Value) (c:Nat):Obj:={cls:=.type "function",data:=.func {name:=x,qualname:=q,params:=du st,body:=.stmts (bW st),scope:=ad st,globals:=3,closure:=[],defaults:=.none,kwdefaults:=.none,pyModule:=m,code:=.ref c}}
def FR (x:Str) (st:Stmt) (m:Value) (t l g a e:Nat) (b:Bool):Fg :=
  [(a+(if b=true then 5 else 3),FC ([.str x t,.str x (t+1),.str "/claim/cut.py" (t+2),.int l 0,.int g 0,.int 0 0,.int 0 0,.int 3 0,.ref a,.bool true,.int 181 0,.ref (a+1),.none]++(if b=true then [.ref (a+2),.ref (a+3),.ref (a+4)] else [.none,.none,.ref (a+2)])++[.int e 0,.int l 0,.str "/claim/cut.py" (e+1)])),
   (a+(if b=true then 6 else 4),FF x x st m (a+(if b=true then 5 else 3)))]
def SL:List Row:=[("number",350,76,[.str "number" 351]),("name",353,77,[.str "meant" 354]),("let",356,78,[.str "bound" 357,.str "one" 358,.str "one" 359]),("var",361,79,[.str "bound" 362,.str "one" 363,.str "one" 364]),("set",366,80,[.str "meant" 367,.str "one" 368]),("do",370,81,[.str "many" 371]),("if",373,82,[.str "one" 374,.str "one" 375,.str "one" 376]),("while",378,83,[.str "one" 379,.str "one" 380]),("each",382,84,[.str "bound" 383,.str "one" 384,.str "one" 385]),("say",387,85,[.str "one" 388]),("fault",390,86,[.str "word" 391]),("op",393,87,[.str "op" 394,.str "many" 395]),("new",397,88,[.str "place" 398,.str "many" 399]),("get",401,89,[.str "place" 402,.str "place" 403,.str "one" 404]),("fun",406,90,[.str "bounds" 407,.str "one" 408]),("apply",410,91,[.str "one" 411,.str "many" 412]),("call",414,92,[.str "place" 415,.str "many" 416])]
def OL:List Row:=[("add",245,23,[.int 2 246,.int 2 247]),("sub",248,24,[.int 2 249,.int 2 250]),("mul",251,25,[.int 2 252,.int 2 253]),("div",254,26,[.int 2 255,.int 2 256]),("less",257,27,[.int 2 258,.int 2 259]),("same",260,28,[.int 2 261,.int 2 262]),("at",263,29,[.int 2 264,.int 2 265]),("not",266,30,[.int 1 267,.int 1 268]),("size",269,31,[.int 1 270,.int 1 271]),("row",272,32,[.int 0 273,.int 8 274])]
def KF:Params->Fg:=λP=>[(3,FD P [Fe "__name__" 165 (.str "law_turnsame_k13_right_cores" 562),Fe "__doc__" 166 (.none),Fe "__package__" 167 (.none),Fe "__loader__" 168 (.builtin "__main__.__loader__#opaque"),Fe "__spec__" 169 (.none),Fe "__annotations__" 170 (.ref 6),Fe "__builtins__" 171 (.ref 4),Fe "__file__" 173 (.str "/claim/cut.py" 172),Fe "__cached__" 174 (.none),Fe "KEPT_WORDS" 216 (.ref 15),Fe "LONGEST_NAME" 218 (.int 8 217),Fe "LEAST_NUMBER" 221 (.int (-32768) 220),Fe "GREATEST_NUMBER" 223 (.int 32767 222),Fe "is_name" 229 (.ref 20),Fe "HEADS" 235 (.ref 21),Fe "MOST_FORMS" 237 (.int 40 236),Fe "MOST_PARAMS" 239 (.int 4 238),Fe "MOST_FIELDS" 241 (.int 4 240),Fe "NO_BOUND" 244 (.int (-1) 243),Fe "OPS" 285 (.ref 22),Fe "fits_count" 294 (.ref 39),Fe "reached" 308 (.ref 46),Fe "ring_number" 321 (.ref 53),Fe "is_whole" 330 (.ref 60),Fe "is_whole_within" 339 (.ref 67),Fe "is_tuple_of" 347 (.ref 74),Fe "SLOTS" 418 (.ref 75),Fe "fits_slot" 424 (.ref 97),Fe "is_expression" 430 (.ref 102),Fe "is_function" 437 (.ref 109),Fe "is_open" 444 (.ref 116),Fe "are_opens" 450 (.ref 121),Fe "is_frame" 456 (.ref 126),Fe "children_of" 468 (.ref 133),Fe "bound_by" 475 (.ref 140),Fe "walked" 485 (.ref 147),Fe "scoped_children" 491 (.ref 152),Fe "with_entries" 503 (.ref 159),Fe "has_place" 511 (.ref 166),Fe "can_be_called" 519 (.ref 173),Fe "is_right_alone" 532 (.ref 180),Fe "seen_within" 538 (.ref 185),Fe "is_right_body" 544 (.ref 190),Fe "plain_calls" 550 (.ref 195),Fe "right_core" 561 (.ref 202),Fe "_law_draw" 576 (.ref 209),Fe "_law_pick" 584 (.ref 216),Fe "_law_many" 597 (.ref 223),Fe "_law_e" 603 (.ref 228),Fe "_law_binder" 609 (.ref 233),Fe "_law_wide" 615 (.ref 238),Fe "_law_core" 621 (.ref 243),Fe "_law_bent" 633 (.ref 250),Fe "_law_whole" 642 (.ref 257),Fe "_law_is_word" 648 (.ref 262),Fe "_law_face" 654 (.ref 267),Fe "_law_all" 666 (.ref 274),Fe "_law_fits" 680 (.ref 281),Fe "_law_fits_binder" 695 (.ref 288),Fe "_law_fits_many" 707 (.ref 295),Fe "_law_due" 713 (.ref 300),Fe "_law_callers" 719 (.ref 305),Fe "law" 731 (.ref 312)] 63),(75,FD P (SL.map u5) 17),(22,FD P (OL.map u5) 10),(15,FT [.str "record" 189,.str "function" 190,.str "deep" 191,.str "open" 192,.str "let" 193,.str "var" 194,.str "set" 195,.str "do" 196,.str "if" 197,.str "while" 198,.str "each" 199,.str "say" 200,.str "fault" 201,.str "add" 202,.str "sub" 203,.str "mul" 204,.str "div" 205,.str "less" 206,.str "same" 207,.str "at" 208,.str "not" 209,.str "size" 210,.str "row" 211,.str "new" 212,.str "get" 213,.str "fun" 214,.str "apply" 215]),(21,FT [.str "function" 232,.str "deep" 233,.str "open" 234])]++SL.map (λe=>(e.2.2.1,FT e.2.2.2))++OL.map (λe=>(e.2.2.1,FT e.2.2.2))++(
  FR "is_name" (top 5) M0 224 6 1 16 227 false ++
  FR "fits_count" (top 13) M1 286 17 3 33 292 true ++
  FR "reached" (top 15) M2 297 20 2 40 306 true ++
  FR "ring_number" (top 16) M2 309 30 1 47 319 true ++
  FR "is_whole" (top 18) M3 324 43 1 54 328 true ++
  FR "is_whole_within" (top 19) M3 331 45 3 61 337 true ++
  FR "is_tuple_of" (top 20) M3 340 47 2 68 345 true ++
  FR "fits_slot" (top 23) M4 419 51 2 93 422 false ++
  FR "is_expression" (top 24) M4 425 65 1 98 428 false ++
  FR "is_function" (top 25) M4 431 72 1 103 435 true ++
  FR "is_open" (top 26) M4 438 76 1 110 442 true ++
  FR "are_opens" (top 27) M4 445 80 2 117 448 false ++
  FR "is_frame" (top 28) M4 451 88 1 122 454 false ++
  FR "children_of" (top 30) M5 459 100 1 127 466 true ++
  FR "bound_by" (top 31) M5 469 108 1 134 473 true ++
  FR "walked" (top 32) M5 476 112 1 141 483 true ++
  FR "scoped_children" (top 33) M5 486 120 3 148 489 false ++
  FR "with_entries" (top 34) M5 492 124 3 153 501 true ++
  FR "has_place" (top 35) M5 504 131 2 160 509 true ++
  FR "can_be_called" (top 36) M5 512 133 2 167 517 true ++
  FR "is_right_alone" (top 37) M5 520 135 4 174 530 true ++
  FR "seen_within" (top 38) M5 533 153 2 181 536 false ++
  FR "is_right_body" (top 39) M5 539 158 3 186 542 false ++
  FR "plain_calls" (top 40) M5 545 172 1 191 548 false ++
  FR "right_core" (top 41) M5 551 178 1 196 559 true ++
  FR "_law_draw" (top 43) M6 564 187 3 203 574 true ++
  FR "_law_pick" (top 44) M6 577 197 2 210 582 true ++
  FR "_law_many" (top 45) M6 585 200 5 217 595 true ++
  FR "_law_e" (top 46) M6 598 205 4 224 601 false ++
  FR "_law_binder" (top 47) M6 604 234 4 229 607 false ++
  FR "_law_wide" (top 48) M6 610 247 4 234 613 false ++
  FR "_law_core" (top 49) M6 616 264 1 239 619 false ++
  FR "_law_bent" (top 50) M6 622 280 3 244 631 true ++
  FR "_law_whole" (top 51) M6 634 294 3 251 640 true ++
  FR "_law_is_word" (top 52) M6 643 296 1 258 646 false ++
  FR "_law_face" (top 53) M6 649 302 1 263 652 false ++
  FR "_law_all" (top 54) M6 655 320 5 268 664 true ++
  FR "_law_fits" (top 55) M6 667 325 5 275 678 true ++
  FR "_law_fits_binder" (top 56) M6 681 350 5 282 693 true ++
  FR "_law_fits_many" (top 57) M6 696 365 5 289 705 true ++
  FR "_law_due" (top 58) M6 708 387 1 296 711 false ++
  FR "_law_callers" (top 59) M6 714 402 1 301 717 false ++
  FR "law" (top 60) M6 720 410 1 306 729 true)
def KA:List Addr:=[3,75,22,15,21,76,77,78,79,80,81,82,83,84,85,86,87,88,89,90,91,92,23,24,25,26,27,28,29,30,31,32,19,20,38,39,45,46,52,53,59,60,66,67,73,74,96,97,101,102,108,109,115,116,120,121,125,126,132,133,139,140,146,147,151,152,158,159,165,166,172,173,179,180,184,185,189,190,194,195,201,202,208,209,215,216,222,223,227,228,232,233,237,238,242,243,249,250,256,257,261,262,266,267,273,274,280,281,287,288,294,295,299,300,304,305,311,312]
def QV:Program:=PySem.W.view PySem.Challenge.pw_turnsame_k13_right_cores [60]
def LZ:List Str:=List.map Str.ofString ["KEPT_WORDS","LONGEST_NAME","LEAST_NUMBER","GREATEST_NUMBER","is_name","HEADS","MOST_FORMS","MOST_PARAMS","MOST_FIELDS","NO_BOUND","OPS","fits_count","reached","ring_number","is_whole","is_whole_within","is_tuple_of","SLOTS","fits_slot","is_expression","is_function","is_open","are_opens","is_frame","children_of","bound_by","walked","scoped_children","with_entries","has_place","can_be_called","is_right_alone","seen_within","is_right_body","plain_calls","right_core","_law_draw","_law_pick","_law_many","_law_e","_law_binder","_law_wide","_law_core","_law_bent","_law_whole","_law_is_word","_law_face","_law_all","_law_fits","_law_fits_binder","_law_fits_many","_law_due","_law_callers"]
def HK:PySem.W.Hook:=PySem.W.kHook KF KA (λ_=>by right)
def sx {α β γ:Type} {o:Option α} {f:α->β} {g:α->γ} {b:β} {c:γ} (a:o.map f=some b) (d:o.map g=some c):o.map (λs=>(f s,g s))=some (b,c):=by
 cases o with
 | none=>cases a
 | some x=>rw[Option.map_some] at a d ⊢;cases a;cases d;rfl
def qA (N:Nat) (w:World) (b:Bool):Option Shared:=(PySem.W.fencedOpening treeTable PySem.Challenge.pw_turnsame_k13_right_cores w N).bind λs₀=>PySem.W.topFrom treeTable PySem.Challenge.pw_turnsame_k13_right_cores (w.withFollow "special-get-raises" b) N s₀
def zw {Ya:World->i} 
 (d:∀ (w:World) (b:Bool),(qA N w b).map (PySem.W.openSeen q loose (importedModules PySem.Challenge.pw_turnsame_k13_right_cores.main.body) Xt h)=some (PySem.W.openGood q loose))
 (c:∀ (w:World) (b:Bool),(qA N w b).map Yf=some (Ya (w.withFollow "special-get-raises" b))):PySem.W.LeftO PySem.Challenge.pw_turnsame_k13_right_cores q loose Xt Yf Ya N h :=
 PySem.W.LeftO.of_split "special-get-raises" λw=>by
  have a:=sx (d w false) (c w false);have b:=sx (d w true) (c w true);unfold qA at a b;cases e:PySem.W.fencedOpening treeTable PySem.Challenge.pw_turnsame_k13_right_cores w N with
  | none=>rw[e] at a;cases a
  | some f =>
   rw[e,Option.bind_some] at a b;rw[Option.map_some,a,b]
def XT (s:Shared):Bool:=PySem.W.xlAt QV [] s&&PySem.W.recOk (PySem.W.RowW.records (PySem.W.OpenRow.toRowW (PySem.W.OpenLaw.row PySem.Challenge.rw_turnsame_k13_right_cores))) s
def GY:∀ w:World,(qA 4082 w false).map (PySem.W.openSeen QV LZ (importedModules PySem.Challenge.pw_turnsame_k13_right_cores.main.body) XT true)=some (PySem.W.openGood QV LZ):=λw=>by right
def GW:∀ w:World,(qA 4082 w false).map (PySem.W.Hook.obs HK)=some (PySem.W.Hook.val HK (w.withFollow "special-get-raises" false)):=λw=>by right
def GX:∀ w:World,(qA 4082 w true).map (PySem.W.openSeen QV LZ (importedModules PySem.Challenge.pw_turnsame_k13_right_cores.main.body) XT true)=some (PySem.W.openGood QV LZ):=λw=>by right
def GV:∀ w:World,(qA 4082 w true).map (PySem.W.Hook.obs HK)=some (PySem.W.Hook.val HK (w.withFollow "special-get-raises" true)):=λw=>by right
end K13
section
open PySem PySem.W PyProof.Rows
set_option maxHeartbeats 0 in
def K13.preH (hc:∀ d:DefRec,d.name=Str.ofString "law"->d.params.defaults=[]->WalkO K13.QV K13.LZ (XL K13.QV []) (Hook.says K13.HK) (OpenRow.toRowW (OpenLaw.row PySem.Challenge.rw_turnsame_k13_right_cores)) d [] (λf vs=>PySem.call f vs)):PySem.Challenge.rw_turnsame_k13_right_cores.Holds:=by
 refine holds_law (by right) λ_=>?_;refine holds_open (q:=K13.QV) (loose:=K13.LZ) (Xt:=K13.XT) (XP:=XL K13.QV []) (Yf:=Hook.obs K13.HK) (Ya:=Hook.val K13.HK) (YP:=Hook.says K13.HK) (N:=4082) ?hl (Hook.of K13.HK) (Hook.keeps K13.HK) (λs e=>xl_of s (Bool.and_eq_true_iff.mp e).1) XL.keeps ?K ?K ?K (λs e=>recFacts_of (Bool.and_eq_true_iff.mp e).2) ?K (by first | assumption | left) (by left) ⟨U,U,U,U,U,by left⟩ ?hw ?hc
 case hl=>exact K13.zw (λw b=>by cases b;exact K13.GY w;exact K13.GX w) (λw b=>by cases b;exact K13.GW w;exact K13.GV w)
 case hw=>w_witness2
 exact hc _ U U
end
namespace L2
open PySem PySem.Spec PyProof.Rows
abbrev Key:=Sum Int Str
def mB:Key->Value->Bool
  | .inl k,v=>Value.isInt k v
  | .inr x,v=>Value.isStrOf x v
def GT (w:World):Key->Int
  | .inl k=>hashInt k
  | .inr x=>hashStr w x
def cm:∀ {k:Key} {v:Value},mB k v=true->(∃ i t,k=Sum.inl i/\v=Value.int i t)\/(∃ x t,k=Sum.inr x/\v=Value.str x t)
 | .inl i,v,h=>by
  obtain⟨t,e⟩:=Value.isInt_shape (k:=i) (v:=v) h;exact .inl ⟨i,t,U,e⟩
 | .inr x,v,h=>by
  obtain⟨t,e⟩:=Value.isStrOf_shape (x:=x) (v:=v) h;exact .inr ⟨x,t,U,e⟩
def uu (i:Int) (t:Tok):mB (.inl i) (.int i t)=true:=by simp[mB,Value.isInt]
def ut (x:Str) (t:Tok):mB (.inr x) (.str x t)=true:=by simp[mB,Value.isStrOf]
def C5 (a b:Int):decide ((Sum.inl a:Key)=Sum.inl b)=(a==b):=by grind
def C2 (a b:Str):decide ((Sum.inr a:Key)=Sum.inr b)=decide (a=b):=by grind
def C4 (a:Int) (b:Str):decide ((Sum.inl a:Key)=Sum.inr b)=false:=decide_eq_false (λq=>nomatch q)
def C3 (a:Str) (b:Int):decide ((Sum.inr a:Key)=Sum.inl b)=false:=decide_eq_false (λq=>nomatch q)
def aI (prog:Program) (w:World):PySem.KeyKind prog w Key where
  is:=mB
  hash:=GT w
  inj:=λv a b ha hb=>by
    rcases cm ha with ⟨i,t,rfl,rfl⟩ | ⟨x,t,rfl,rfl⟩
    · rcases cm hb with ⟨j,u,rfl,e⟩ | ⟨y,u,rfl,e⟩
      · injection e with e1 _;rw[e1]
      · exact nomatch e
    · rcases cm hb with ⟨j,u,rfl,e⟩ | ⟨y,u,rfl,e⟩
      · exact nomatch e
      · injection e with e1 _;rw[e1]
  byValue:=λk v h=>by
    rcases cm h with ⟨i,t,rfl,rfl⟩ | ⟨x,t,rfl,rfl⟩ <;> rfl
  pyHash:=λhv h=>by
    rcases cm hv with ⟨i,t,rfl,rfl⟩ | ⟨x,t,rfl,rfl⟩
    · exact wpAny_pyHash_int h
    · exact wpAny_pyHash_str h
  eqBool:=λhu hv h=>by
    rcases cm hu with ⟨i,t,rfl,rfl⟩ | ⟨x,t,rfl,rfl⟩
    · rcases cm hv with ⟨j,u,rfl,rfl⟩ | ⟨y,u,rfl,rfl⟩
      · rw[C5] at h;exact wpAny_eqBool_int h
      · rw[C4] at h;exact SeqAt.EqAt.int_str i t y u _ _ _ _ h
    · rcases cm hv with ⟨j,u,rfl,rfl⟩ | ⟨y,u,rfl,rfl⟩
      · rw[C3] at h;exact SeqAt.EqAt.str_int x t j u _ _ _ _ h
      · rw[C2] at h;exact wpAny_eqBool_str h
  «strs»:=λk x t v h=>by
    rcases cm h with ⟨i,u,rfl,e⟩ | ⟨y,u,rfl,e⟩
    · exact nomatch e
    · injection e with e1 _
      subst e1;cases v <;> rfl
def oY (prog:Program) (w:World) (i:Int) (t:Tok):(aI prog w).is (.inl i) (.int i t)=true:=uu i t
def gO (prog:Program) (w:World) (x:Str) (t:Tok):(aI prog w).is (.inr x) (.str x t)=true:=ut x t
inductive V where
  | non | bl (b:Bool) | int (i:Int) | str (x:Str) | byt (b:Array UInt8) | flt (b:UInt64) | ref (a:Addr) | ty (n:String)
  deriving DecidableEq
def bh:V->Value->Prop
  | .non,u=>u=Value.none
  | .bl b,u=>u=Value.bool b
  | .int i,u=>∃ t,u=Value.int i t
  | .str x,u=>∃ t,u=Value.str x t
  | .byt b,u=>∃ t,u=Value.bytes b t
  | .flt b,u=>∃ t,u=Value.float b t
  | .ref a,u=>u=Value.ref a
  | .ty n,u=>u=Value.type n
abbrev b7:List V->List Value->Prop:=Paired bh
def b7.length (r:b7 xs us):xs.length=us.length:=Paired.length r
def b7.get:∀ {xs:List V} {a:List Value} {i:Nat} {x:V},b7 xs a->xs[i]?=some x->∃ u,a[i]?=some u/\bh x u:=by
 intro xs a i x h
 induction h generalizing i with
 | nil=>intro e;simp at e
 | cons r t b =>
  intro e;cases i with
  | zero=>cases e;exact⟨_,U,r⟩
  | succ i=>exact b e
def b7.set {x:V} {u:Value} (r:bh x u):∀ {xs:List V} {us:List Value} (i:Nat),b7 xs us->b7 (xs.set i x) (us.set i u)
 | _,_,_,.nil=>.nil
 | _,_,0,.cons _ t=>.cons r t
 | _,_,i+1,.cons q t=>.cons q (b7.set r i t)
def b7.append:∀ {xs ys:List V} {a b:List Value},b7 xs a->b7 ys b->b7 (xs++ys) (a++b):=by
 intro xs ys a b h z
 induction h with
 | nil=>exact z
 | cons r t c=>exact .cons r c
def b7.take:∀ {xs:List V} {us:List Value} (n:Nat),b7 xs us->b7 (xs.take n) (us.take n)
 | _,_,0,_=>.nil
 | _,_,_+1,.nil=>.nil
 | _,_,n+1,.cons r t=>.cons r (b7.take n t)
def b7.drop:∀ {xs:List V} {us:List Value} (n:Nat),b7 xs us->b7 (xs.drop n) (us.drop n)
 | _,_,0,r=>r
 | _,_,_+1,.nil=>.nil
 | _,_,n+1,.cons _ t=>b7.drop n t
def jc:Option V->Option Value->Prop
  | some v,some u=>bh v u
  | none,none=>True
  | _,_=>False
def KV {κ:Type}:List (κ×V)->List (κ×Value)->Prop:=Paired λ(p:κ×V) (q:κ×Value)=>p.1=q.1/\bh p.2 q.2
def kV:Key->V
  | .inl i=>.int i
  | .inr x=>.str x
inductive HO where
    | lst (xs:List V)
    | tup (xs:List V)
    | dK (kvs:List (Key×V)) | dT (kvs:List (List Key×V))
    | set (S:Int->Bool) (n:Nat)
    | ins (C dx:Addr) (fs:List (Str×V))
    | own (x:Addr)
    | xd (fs:List (Str×V))
    | met (f x:Addr)
    | rng (lo hi:Int)
    | frz (o:Obj) (u:HO)
    | tbl (ps:Array Value)
    | ext (φ:Heap->Prop)
abbrev Hp:=Addr->Option HO
def upd (H:Hp) (a:Addr) (o:HO):Hp:=λb=>if b=a then some o else H b
def pF:upd H a o a=some o:=by unfold upd;rw[if_pos U]
def ai (h:b≠a):upd H a o b=H b:=by unfold upd;rw[if_neg h]
def yx:upd (upd H a o) a u=upd H a u:=by
 funext b;unfold upd;split <;> rfl
def EV {H:Hp} (h:H a=some o) (h':H b=some u) (d:o≠u):a≠b:=by
 intro e;subst e;rw[h] at h';exact d (Option.some.inj h')
def aD {H:Hp} (h:H a=some o) (h':H b=none):a≠b:=by
 intro e;subst e;rw[h] at h';cases h'
section
variable (P:Program) (w:World)
def bV (H:Hp) (h:Heap) (a:Addr):HO->Prop
  | .lst xs=>xs.length<=sizeLine/\∃ (its:List Value) (n:Nat),b7 xs its/\h.get? a=some {cls:=.type "list",data:=.seq its.toArray n}
  | .tup xs=>xs.length<=sizeLine/\∃ its:List Value,b7 xs its/\IsTup h a its.toArray
  | .dK kvs=>kvs.length<=sizeLine/\(a==sysModules)=false/\∃ vs,KV kvs vs/\h.DictOf (aI P w) a vs
  | .dT kvs=>kvs.length<=sizeLine/\(a==sysModules)=false/\∃ xs:List (List Key×Addr×Value),
      Paired (λ(p:List Key×V) (q:List Key×Addr×Value)=>p.1=q.1/\H q.2.1=some (.tup (p.1.map kV))/\bh p.2 q.2.2) kvs xs /\
      ∃ o es ep,h.get? a=some o/\o.ExactDict/\o.data=.dict es ep/\es.toList=xs.map (entryOfKey (tupleKind (aI P w)))/\(xs.map (·.1)).Nodup
  | .set S n=>h.SetOf (intKind P w) a S n
  | .ins C dx fs=>H dx=some (.own a)/\fs.length<=1000/\dx≠a/\h.get? a=some (PySem.W.instObj C dx) /\
      ∃ mA,h.Ns1 dx mA/\(∀ f,jc (fs.lookup f) (mA f))/\PySem.Within mA (fs.map (·.1))
  | .own _=>∃ o,h.get? a=some o
  | .xd fs=>∃ mA,h.Ns1 a mA/\∀ f,jc (fs.lookup f) (mA f)
  | .rng lo hi=>∃ t u v,h.get? a=some {cls:=.type "range",data:=.fields #[.int lo t,.int hi u,.int 1 v]}
  | .frz o u=>h.get? a=some o/\bV H h a u
  | .tbl ps=>h.get? a=some {cls:=.none,data:=.fields ps}
  | .met f x=>h.get? a=some (PySem.W.methodObj (.ref f) (.ref x))
  | .ext φ=>φ h/\(∃ o,h.get? a=some o)/\∀ h1 h2:Heap,φ h1->(∀ o,h1.get? a=some o->h2.get? a=some o)->φ h2
def HOk (H:Hp) (h:Heap):Prop:=∀ a o,H a=some o->bV P w H h a o
end
section
variable {P:Program} {w:World} {H O:Hp} {h h':Heap} {a:Addr} {o:HO}
def bV.lt (x:bV P w H h a o):a<h.objs.size:=by
 cases o with
 | lst c=>obtain⟨_,_,_,_,e⟩:=x;exact Heap.lt_size e
 | tup c=>obtain⟨_,_,_,p⟩:=x;exact p.lt
 | dK b=>obtain⟨_,_,_,_,o,_,_,e,_⟩:=x;exact Heap.lt_size e
 | dT b=>obtain⟨_,_,_,_,o,_,_,e,_⟩:=x;exact Heap.lt_size e
 | set S n=>obtain⟨o,_,_,_,e,_⟩:=x;exact Heap.lt_size e
 | ins C d r=>obtain⟨_,_,_,e,_⟩:=x;exact Heap.lt_size e
 | own y=>obtain⟨_,e⟩:=x;exact Heap.lt_size e
 | xd r=>obtain⟨_,⟨_,_,_,e,_⟩,_⟩:=x;exact Heap.lt_size e
 | rng j g=>obtain⟨_,_,_,e⟩:=x;exact Heap.lt_size e
 | frz k u=>obtain⟨e,_⟩:=x;exact Heap.lt_size e
 | tbl i=>exact Heap.lt_size (show h.get? a=some _ from x)
 | met f y=>exact Heap.lt_size (show h.get? a=some _ from x)
 | ext G=>obtain⟨_,⟨_,e⟩,_⟩:=x;exact Heap.lt_size e
def Paired.mapP:∀ {d:List α} {c:List β},Paired F d c->(∀ a b,F a b->G a b)->Paired G d c:=by
 intro d c h f
 induction h with
 | nil=>exact .nil
 | cons r t e=>exact .cons (f _ _ r) e
def bV.stay (x:bV P w H h a o) (k:∀ b u,(b=a\/H b=some (.own a))->h.get? b=some u->h'.get? b=some u)
 (J:∀ b,H b=some (.own a)->O b=some (.own a)) (E:∀ b m,H b=some (.tup m)->O b=some (.tup m)):bV P w O h' a o:=by
 induction o with
 | lst m=>obtain⟨z,l,n,r,e⟩:=x;exact⟨z,l,n,r,k _ _ (.inl U) e⟩
 | tup m=>obtain⟨z,l,r,g,e,c⟩:=x;exact⟨z,l,r,g,k _ _ (.inl U) e,c⟩
 | dK A=>obtain⟨z,y,G,r,g,i,j,e,c⟩:=x;exact⟨z,y,G,r,g,i,j,k _ _ (.inl U) e,c⟩
 | dT A =>
  obtain⟨z,y,m,r,g,i,j,e,c⟩:=x;exact⟨z,y,m,Paired.mapP r λp q z=>⟨z.1,E _ _ z.2.1,z.2.2⟩,g,i,j,k _ _ (.inl U) e,c⟩
 | set S n=>obtain⟨g,i,j,t,e,c⟩:=x;exact⟨g,i,j,t,k _ _ (.inl U) e,c⟩
 | ins C K Y =>
  obtain⟨d,z,Z,e,s,⟨B,i,j,I,c⟩,r⟩:=x;exact⟨J _ d,z,Z,k _ _ (.inl U) e,s,⟨B,i,j,k _ _ (.inr d) I,c⟩,r⟩
 | own y=>obtain⟨g,e⟩:=x;exact⟨g,k _ _ (.inl U) e⟩
 | xd Y=>obtain⟨s,⟨B,i,j,e,c⟩,r⟩:=x;exact⟨s,⟨B,i,j,k _ _ (.inl U) e,c⟩,r⟩
 | rng N L=>obtain⟨t,u,v,e⟩:=x;exact⟨t,u,v,k _ _ (.inl U) e⟩
 | frz g u F=>obtain⟨e,q⟩:=x;exact⟨k _ _ (.inl U) e,F q⟩
 | tbl M =>
  have e:=x;exact k a _ (.inl U) e
 | met f y =>
  have e:=x;exact k a _ (.inl U) e
 | ext φ=>obtain⟨p,⟨o,e⟩,D⟩:=x;exact⟨D _ _ p λo q=>k _ _ (.inl U) q,⟨o,k _ _ (.inl U) e⟩,D⟩
def HOk.lt (x:HOk P w H h) (e:H a=some o):a<h.objs.size:=(x a o e).lt
def HOk.fresh (x:HOk P w H h) (e:h.objs.size<=a):H a=none:=by
 cases q:H a with
 | none=>rfl
 | some u=>exact absurd (Nat.lt_of_lt_of_le (x.lt q) e) (Nat.lt_irrefl _)
def HOk.kept (x:HOk P w H h) (k:∀ b u,h.get? b=some u->h'.get? b=some u):HOk P w H h':=λa o e =>
 (x a o e).stay (λb u _ q=>k b u q) (λ_ q=>q) λ_ _ q=>q
def HOk.laid (x:HOk P w H h) (k:∀ b u,h.get? b=some u->h'.get? b=some u) (g:h.objs.size<=a) (new:bV P w (upd H a o) h' a o):HOk P w (upd H a o) h':=λb u e=>by
 have d:=x.fresh g;by_cases f:b=a
 · subst f;rw[pF] at e;cases e;exact new
 · rw[ai f] at e;exact (x b u e).stay (λc v _ q=>k c v q) (λc q=>by rw[ai (aD q d)];exact q) λc i q=>by rw[ai (aD q d)];exact q
end
def Rd (H:Hp) (a:Addr) (u:HO):Prop:=H a=some u\/∃ o,H a=some (.frz o u)
def Rd.ok (r:Rd H a u) (x:HOk P w H h):bV P w H h a u:=by
 rcases r with r | ⟨o,r⟩
 · exact x a u r
 · obtain⟨_,q⟩:=x a _ r;exact q
def Mut:Option HO->Prop
  | some (.lst _)=>True
  | some (.dK _)=>True
  | some (.dT _)=>True
  | some (.set _ _)=>True
  | some (.ins _ _ _)=>True
  | some (.ext _)=>True
  | _=>False
section
variable {P:Program} {w:World} {H:Hp} {h h':Heap} {x e:Addr} {o':HO}
def HOk.write (B:HOk P w H h) (g:Mut (H x)) (he:e=x\/H e=some (.own x)) (k:∀ b u,b≠e->h.get? b=some u->h'.get? b=some u) (l:∃ u,h'.get? e=some u)
 (t:bV P w (upd H x A) h' x A):HOk P w (upd H x A) h':=λb u q=>by
 have f:∀ c y,H c=some (.own y)->c≠x:=λc y r z=>by subst z;rw[r] at g;exact g
 have d:∀ c i,H c=some (.tup i)->c≠x:=λc i r z=>by subst z;rw[r] at g;exact g
 by_cases j:b=x
 · subst j;rw[pF] at q;cases q;exact t
 · rw[ai j] at q;by_cases a:b=e
   · have m:H b=some (.own x):=by
      rcases he with z | z
      · exact absurd (a.trans z) j
      · rw[a];exact z
     rw[q] at m;cases m;obtain⟨v,o⟩:=l;exact⟨v,by rw[a];exact o⟩
   · refine (B b u q).stay (λc v n r=>k c v ?_ r) (λc r=>by rw[ai (f c b r)];exact r) λc i r=>by rw[ai (d c i r)];exact r
     rcases n with rfl | n
     · exact a
     · grind
end
structure Un (fs ex:List Addr) (H H':Hp) (h h':Heap):Prop where
  keep:∀ b o,h.get? b=some o->H b=none->b∉fs->b∉ex->h'.get? b=some o
  slot:∀ b o,h.get? b=some o->H b=none->b∈fs->b∉ex->∃ sl,h'.get? b=some {o with slots:=sl}
  free:∀ b o,h.get? b=some o->H b=none->b∉ex->H' b=none
  there:∀ b o,h.get? b=some o->b∉ex->∃ o',h'.get? b=some o'
  tups:∀ b xs,H b=some (.tup xs)->H' b=some (.tup xs)
  frzs:∀ b o u,H b=some (.frz o u)->H' b=some (.frz o u)
  tbls:∀ b ps,H b=some (.tbl ps)->∃ more,H' b=some (.tbl (ps++more))
section
variable {fs fs' p ex':List Addr} {H H1 H2:Hp} {h s h2 h':Heap} {a x e:Addr} {o:HO}
def Un.any (u:Un fs p H H1 h s) (q:h.get? b=some ob) (n:H b=none) (e:b∉p):∃ f,s.get? b=some {ob with slots:=f}:=by
 by_cases d:b∈fs
 · exact u.slot b ob q n d e
 · exact⟨ob.slots,u.keep b ob q n d e⟩
def Un.kept (k:∀ b u,h.get? b=some u->h'.get? b=some u):Un fs p H H h h' :=
 ⟨λb a q _ _ _=>k b a q,λb a q _ _ _=>⟨a.slots,k b a q⟩,λ_ _ _ n _=>n,λb a q _=>⟨a,k b a q⟩,λ_ _ q=>q,λ_ _ _ q=>q,λ_ c q=>⟨#[],by rw[q];simp⟩⟩
def Un.refl:Un fs p H H h h:=Un.kept λ_ _ q=>q
def Un.laid (k:∀ b u,h.get? b=some u->h'.get? b=some u) (e:h.objs.size<=a) (c:H a=none):Un fs p H (upd H a o) h h' where
 keep:=λb u q _ _ _=>k b u q
 slot:=λb u q _ _ _=>⟨u.slots,k b u q⟩
 free:=λb u q n _=>by rw[ai (Nat.ne_of_lt (Nat.lt_of_lt_of_le (Heap.lt_size q) e))];exact n
 there:=λb u q _=>⟨u,k b u q⟩
 tups:=λb d q=>by rw[ai (aD q c)];exact q
 frzs:=λb u d q=>by rw[ai (aD q c)];exact q
 tbls:=λb f q=>⟨#[],by rw[ai (aD q c),q];simp⟩
def Un.write (c:Mut (H x)) (he:e=x\/H e=some (.own x)) (k:∀ b u,b≠e->h.get? b=some u->h'.get? b=some u) (d:∃ u,h'.get? e=some u):Un fs p H (upd H x o) h h':=by
 have i:∀ b,H b=none->b≠x:=λb n z=>by subst z;rw[n] at c;exact c
 have g:∀ b,H b=none->b≠e:=λb n z=>by
  subst z
  rcases he with r | r
  · exact i b n r
  · rw[n] at r;cases r
 have f:∀ b u,H b=some u->¬ Mut (some u)->b≠x:=λb u q j z=>by subst z;rw[q] at c;exact j c
 refine⟨λb u q n _ _=>k b u (g b n) q,λb u q n _ _=>⟨u.slots,k b u (g b n) q⟩,λb u q n _=>by rw[ai (i b n)];exact n,λb u q _=>?_,
   λb l q=>by rw[ai (f b _ q λz=>z)];exact q,λb u l q=>by rw[ai (f b _ q λz=>z)];exact q,λb m q=>⟨#[],by rw[ai (f b _ q λz=>z),q];simp⟩⟩
 by_cases a:b=e
 · subst a;exact d
 · exact⟨u,k b u a q⟩
end
def trk (h:Heap) (H:Hp):List Addr:=(List.range h.objs.size).filter λa=>(H a).isSome
def nR (h:Heap) (H:Hp):Heap:=PySem.W.hideAll h (trk h H)
def ux (h:Heap) (H:Hp):(nR h H).objs.size=h.objs.size:=PySem.W.hideAll_size _ _
def wY (e:h.get? b=some o) (n:H b=none):(nR h H).get? b=some o :=
 PySem.W.hideAll_get _ e λhm=>by
  have q:=(List.mem_filter.mp hm).2;rw[n] at q;simp at q
def zn (e:(nR h H).get? b=some o):h.get? b=some o/\H b=none:=by
 have a:=PySem.W.of_hideAll (trk h H) e;refine⟨a,?_⟩;cases q:H b with
 | none=>rfl
 | some x =>
  have c:b∈trk h H:=List.mem_filter.mpr ⟨List.mem_range.mpr (Heap.lt_size a),by simp[q]⟩;have z:(nR h H).get? b=none:=PySem.W.hideAll_none (trk h H) c;rw[z] at e;cases e
def A7 (g h:Heap) (L:Addr):AOs:=(List.range h.objs.size).filterMap λa=>if a=L\/(g.get? a).isSome=true then none else (h.get? a).map λo=>(a,o)
def bT (g h:Heap) (L d:Addr):AOs:=(A7 g h L).filter λp=>decide (p.1≠d)
structure Mod (K:Fg) (mg:SOV) (base:Heap):Prop where
  kin:K.In base
  glob:base.Ns mainGlobals mg
  blt:∃ mb,base.Ns builtinsNs mb/\∀ x:Str,x≠"__name__"->mb x=bootBuiltins x
  nolimit:base.NoLimit
structure Cx where
  prog:Program
  w:World
  K:Fg
  mg:Str->Option Value
  base:Heap
  A:Around
  N:List Str
  s₀:Shared
  H₀:Hp
  env:Env
  outer:List Env
  stack:List Env
  ex:List Addr
  fn:Str->Bool
  calm:Bool
  pn:AOs
  xe:Value->Shared->Prop
def frs (l:List Env):List Addr:=l.filterMap (·.frame)
abbrev Cx.fs (X:Cx):List Addr:=frs X.outer
def Vis (sc:Scope) (x:Str):Prop:=sc.names.lookup x=some .local\/sc.names.lookup x=some .cell\/sc.names.lookup x=some .free
def Loc (sc:Scope) (x:Str):Prop:=sc.names.lookup x=some .local\/sc.names.lookup x=some .cell
def Hn (env:Env) (h:Heap) (m:SOV) (x:Str) (u:Value):Prop :=
  (env.kindOf x=some .local/\m x=some u)\/((env.kindOf x=some .cell\/env.kindOf x=some .free)/\∃ c,env.cells.lookup x=some c/\h.IsCell c (some u))
structure Cx.Ok (X:Cx):Prop where
  mod:Mod X.K X.mg X.base
  kind:X.env.scope.kind=.function
  glob:X.env.globals=mainGlobals
  blt:X.env.builtins=builtinsNs
  above:X.s₀.heap.objs.size<=X.env.locals
  inj:∀ x y c,X.env.cells.lookup x=some c->X.env.cells.lookup y=some c->x=y
  has:∀ x,(X.env.kindOf x=some .cell\/X.env.kindOf x=some .free)->∃ c,X.env.cells.lookup x=some c
  cab:∀ x c,X.fn x=true->X.env.cells.lookup x=some c->X.s₀.heap.objs.size<=c
  hd:X.calm=true->X.A.handled=none
  frames:X.A.frames=some X.stack
  stk:X.stack=X.outer\/(X.stack=X.env::X.outer/\X.env.frame=some X.env.locals)
  exf:∀ b∈X.ex,b≠X.env.locals/\∀ x c,X.env.cells.lookup x=some c->c≠b
  bs:∀ b o,X.base.get? b=some o->X.s₀.heap.get? b=some o/\X.H₀ b=none
  bsz:X.base.objs.size<=X.s₀.heap.objs.size
  noex:∀ b o,X.base.get? b=some o->b∉X.ex
  exfs:∀ b∈X.ex,b∉X.fs
  funs:X.s₀.heap.FunFrames X.base X.outer
  frf:∀ b∈X.fs,X.H₀ b=none
structure Inv (X:Cx) (pins:AOs) (σ:List (Option V)) (H:Hp) (s:Shared):Prop where
  ok:X.Ok
  os:s.os=X.s₀.os
  bare:AllBare s.gens
  base:Un X.fs X.ex X.H₀ H X.s₀.heap s.heap
  loc:∃ m,s.heap.Ns X.env.locals m/\∀ (i:Nat) (x:Str) (v:V),X.N[i]?=some x->σ[i]?=some (some v)->Vis X.env.scope x->∃ u,bh v u/\Hn X.env s.heap m x u
  cell:∀ x c,X.env.cells.lookup x=some c->∃ v,s.heap.IsCell c v
  free:H X.env.locals=none
  freeC:∀ x c,X.env.cells.lookup x=some c->H c=none
  pin:∀ p∈X.pn++pins,s.heap.get? p.1=some p.2/\H p.1=none/\p.1≠X.env.locals/\p.1∉X.fs/\∀ v,p.2.data≠.cell v
  hok:HOk X.prog X.w H s.heap
  len:σ.length=X.N.length
section
variable {X:Cx} {T:AOs} {σ:List (Option V)} {H H':Hp} {s:Shared} {h':Heap}
def Cx.Ok.nofr (ok:X.Ok) (e:X.base.get? b=some o):b∉X.fs:=λhb=>by
 have:=(ok.funs.mem hb).1;rw[e] at this;cases this
def Inv.bs (I:Inv X T σ H s):∀ b o,X.base.get? b=some o->s.heap.get? b=some o/\H b=none:=λb o e =>
 ⟨I.base.keep b o (I.ok.bs b o e).1 (I.ok.bs b o e).2 (I.ok.nofr e) (I.ok.noex b o e),I.base.free b o (I.ok.bs b o e).1 (I.ok.bs b o e).2 (I.ok.noex b o e)⟩
def Inv.bk (I:Inv X T σ H s):∀ b o,X.base.get? b=some o->s.heap.get? b=some o:=λb o e=>(I.bs b o e).1
def Inv.mod (I:Inv X T σ H s):Mod X.K X.mg X.base:=I.ok.mod
def Inv.kIn (I:Inv X T σ H s):X.K.In s.heap:=I.ok.mod.kin.keeps I.bk
def Inv.lt (I:Inv X T σ H s):X.env.locals<s.heap.objs.size:=by
 obtain⟨_,a,_⟩:=I.loc;exact a.lt
def Inv.sz (I:Inv X T σ H s):X.s₀.heap.objs.size<=s.heap.objs.size:=Nat.le_trans I.ok.above (Nat.le_of_lt I.lt)
def Inv.nofs (I:Inv X T σ H s) {a:Addr} (h:s.heap.objs.size<=a):a∉X.fs:=λhb=>by
 obtain⟨_,o,b,_⟩:=I.ok.funs.mem hb;exact absurd (Nat.lt_of_lt_of_le (Heap.lt_size b) (Nat.le_trans I.sz h)) (Nat.lt_irrefl _)
def Inv.cne (I:Inv X T σ H s):∀ x c,X.env.cells.lookup x=some c->c≠X.env.locals:=λx c e z=>by
 obtain⟨v,o,b,d⟩:=I.cell x c e;obtain⟨m,⟨g,i,h,f,a,_⟩,_⟩:=I.loc;rw[z,f] at b;cases b;rw[a] at d;cases d
def Inv.funs (I:Inv X T σ H s):s.heap.FunFrames X.base X.outer:=by
 have all:∀ (l:List Env),(∀ b∈frs l,b∈X.fs)->X.s₀.heap.FunFrames X.base l->s.heap.FunFrames X.base l:=by
  intro l
  induction l with
  | nil=>intro _ _;trivial
  | cons env r j =>
   intro f k;obtain⟨i,⟨L,o,c,m,g,n⟩,h⟩:=k;have d:=f L (by unfold frs;rw[List.filterMap_cons,c];exact mCS);obtain⟨p,e⟩:=I.base.slot L o g (I.ok.frf L d) d λz=>I.ok.exfs L z d;exact⟨i,⟨L,_,c,m,e,n⟩,j (λb a=>f b (by unfold frs;rw[List.filterMap_cons,c];exact mCM _ a)) h⟩
 exact all X.outer (λ_ a=>a) I.ok.funs
def Inv.stack (I:Inv X T σ H s):s.heap.FunFrames X.base X.stack:=by
 rcases I.ok.stk with e | ⟨e,a⟩
 · rw[e];exact I.funs
 · rw[e];obtain⟨m,b,_⟩:=I.loc;refine .cons (by rw[I.ok.kind];decide) a b ?_ I.funs;exact Heap.get?_none_of_le (Nat.le_trans I.ok.bsz I.ok.above)
def Inv.stkSub (I:Inv X T σ H s):∀ b∈frs X.stack,b∈X.env.locals::X.fs:=λb a=>by
 rcases I.ok.stk with e | ⟨e,c⟩
 · rw[e] at a;exact mCM _ a
 · rw[e] at a;unfold frs at a;rw[List.filterMap_cons,c] at a;exact a
def Inv.stkFree (I:Inv X T σ H s):∀ b∈frs X.stack,H b=none:=λb a=>by
 rcases List.mem_cons.mp (I.stkSub b a) with e | a
 · rw[e];exact I.free
 · obtain⟨_,o,c,_⟩:=I.ok.funs.mem a;exact I.base.free b o c (I.ok.frf b a) λz=>I.ok.exfs b z a
def Inv.step {g':Array GenState} {t':Nat} {d':Drawn} {ch:List Addr} (I:Inv X T σ H s)
 (G:∀ b∈ch,(b∈X.ex\/X.s₀.heap.objs.size<=b)/\b≠X.env.locals/\(∀ x c,X.env.cells.lookup x=some c->c≠b)/\∀ p∈X.pn++T,p.1≠b)
 (B:∀ b o,b≠X.env.locals->b∉X.fs->b∉ch->s.heap.get? b=some o->H b=none->h'.get? b=some o)
 (y:∀ b o,b≠X.env.locals->b∈X.fs->b∉ch->s.heap.get? b=some o->H b=none->∃ P,h'.get? b=some {o with slots:=P}) (f:∀ b o,b∉ch->s.heap.get? b=some o->H b=none->H' b=none)
 (D:∀ b o,b∉ch->s.heap.get? b=some o->∃ J,h'.get? b=some J)
 (M:∀ b A,H b=some (.tup A)->H' b=some (.tup A)) (N:∀ b o u,H b=some (.frz o u)->H' b=some (.frz o u)) (K:∀ b O,H b=some (.tbl O)->∃ more,H' b=some (.tbl (O++more)))
 (ns:∀ m,s.heap.Ns X.env.locals m->h'.Ns X.env.locals m) (S:HOk X.prog X.w H' h') (hg:AllBare g') :
 Inv X T σ H' {s with heap:=h',gens:=g',drawn:=d',toks:=t'}:=by
 have F:∀ b o,X.s₀.heap.get? b=some o->b≠X.env.locals:=λb o e=>Nat.ne_of_lt (Nat.lt_of_lt_of_le (Heap.lt_size e) I.ok.above);have j:∀ b o,X.s₀.heap.get? b=some o->b∉X.ex->b∉ch:=λb o e a C=>by
  rcases (G b C).1 with z | z
  · exact a z
  · exact absurd (Nat.lt_of_lt_of_le (Heap.lt_size e) z) (Nat.lt_irrefl _)
 have h:∀ x c,X.env.cells.lookup x=some c->∀ v,s.heap.IsCell c v->h'.IsCell c v:=λx c e v ⟨o,E,R⟩=>by
  have g:=λz=>(G c z).2.2.1 x c e rfl;by_cases Y:c∈X.fs
  · obtain⟨P,q⟩:=y c o (I.cne x c e) Y g E (I.freeC x c e);exact⟨_,q,R⟩
  · exact⟨o,B c o (I.cne x c e) Y g E (I.freeC x c e),R⟩
 refine⟨I.ok,I.os,hg,⟨λb o e n C a=>?_,λb o e n C a=>?_,λb o e n a=>?_,λb o e a=>?_,λb A e=>M b A (I.base.tups b A e),λb o A e=>N b o A (I.base.frzs b o A e),λb O e=>?_⟩,?_,λx c e=>?_,?_,λx c e=>?_,λp W=>?_,S,I.len⟩
 · exact B b o (F b o e) C (j b o e a) (I.base.keep b o e n C a) (I.base.free b o e n a)
 · obtain⟨P,t⟩:=I.base.slot b o e n C a;obtain⟨Q,L⟩:=y b _ (F b o e) C (j b o e a) t (I.base.free b o e n a);exact⟨Q,L⟩
 · obtain⟨J,t⟩:=I.base.there b o e a;exact f b J (j b o e a) t (I.base.free b o e n a)
 · obtain⟨J,t⟩:=I.base.there b o e a;exact D b J (j b o e a) t
 · obtain⟨m1,t⟩:=I.base.tbls b O e;obtain⟨m2,L⟩:=K b _ t;exact⟨m1++m2,by rw[L,Array.append_assoc]⟩
 · obtain⟨m,hn,hl⟩:=I.loc;refine⟨m,ns m hn,λi x v t L e3=>?_⟩;obtain⟨u,r,l⟩:=hl i x v t L e3;refine⟨u,r,?_⟩
   rcases l with l | ⟨k,c,e,z⟩
   · exact .inl l
   · exact .inr ⟨k,c,e,h x c e _ z⟩
 · obtain⟨v,z⟩:=I.cell x c e;exact⟨v,h x c e v z⟩
 · obtain⟨m,⟨o,_,_,E,_⟩,_⟩:=I.loc;exact f _ o (λz=>(G _ z).2.1 U) E I.free
 · obtain⟨v,o,E,R⟩:=I.cell x c e;exact f c o (λz=>(G c z).2.2.1 x c e U) E (I.freeC x c e)
 · obtain⟨e,n,ne,Z,d⟩:=I.pin p W;have g:=λz=>(G p.1 z).2.2.2 p W rfl;exact⟨B p.1 p.2 ne Z g e n,f p.1 p.2 g e n,ne,Z,d⟩
def Inv.un {t':Nat} (I:Inv X T σ H s) (u:Un X.fs [] H H' s.heap h') (hok:HOk X.prog X.w H' h'):Inv X T σ H' {s with heap:=h',toks:=t'}:=by
 obtain⟨m,⟨o,es,ep,ho,r⟩,_⟩:=id I.loc;obtain⟨sl,hL⟩:=u.any ho I.free ?B;exact I.step (g':=s.gens) (d':=s.drawn) (ch:=[]) (λ_ z=>nomatch z) (λb o _ hb _ e n=>u.keep b o e n hb ?B) (λb o _ hb _ e n=>u.slot b o e n hb ?B) (λb o _ e n=>u.free b o e n ?B) (λb o _ e=>u.there b o e ?B) u.tups u.frzs u.tbls (λm' hm=>by
   obtain⟨o',es',ep',Ii,r'⟩:=hm;rw[ho] at Ii;cases Ii;exact⟨_,es',ep',hL,r'⟩) hok I.bare
def Inv.call {g':Array GenState} {t':Nat} {d':Drawn} {ch:List Addr} (I:Inv X T σ H s) (u:Un (frs X.stack) ch H H' s.heap l) (f:HOk X.prog X.w H' l) (D:AllBare g')
 (q:∀ b∈ch,(b∈X.ex\/X.s₀.heap.objs.size<=b)/\b≠X.env.locals/\(∀ x c,X.env.cells.lookup x=some c->c≠b)/\∀ p∈X.pn++T,p.1≠b) :
 Inv X T σ H' {s with heap:=l,gens:=g',drawn:=d',toks:=t'}:=by
 obtain⟨m,⟨o,J,K,A,r⟩,_⟩:=id I.loc;obtain⟨L,h⟩:=u.any A I.free λz=>(q _ z).2.1 rfl;exact I.step (ch:=ch) q (λb o h E d e n=>u.keep b o e n (λz=>(List.mem_cons.mp (I.stkSub b z)).elim h E) d) (λb o _ _ d e n=>u.any e n d) (λb o d e n=>u.free b o e n d) (λb o d e=>u.there b o e d) u.tups u.frzs u.tbls (λM F=>by
   obtain⟨N,i,j,B,G⟩:=F;rw[A] at B;cases B;exact⟨_,i,j,h,G⟩) f D
def Inv.turned {t':Nat} {a:Addr} (I:Inv X T σ H s) (k:∀ b o,b≠a->s.heap.get? b=some o->t.get? b=some o) (w:H a=none) (i:a≠X.env.locals)
 (y:a∈X.ex\/X.s₀.heap.objs.size<=a) (A:∀ x c,X.env.cells.lookup x=some c->c≠a) (B:∀ p∈X.pn++T,p.1≠a):Inv X T σ H {s with heap:=t,toks:=t'}:=by
 have g:∀ b u,H b=some u->b≠a:=λb u e z=>by rw[z,w] at e;cases e
 refine I.step (g':=s.gens) (d':=s.drawn) (ch:=[a]) (λb C=>?_) (λb o _ _ f e _=>k b o (λz=>f (by simp[z])) e) (λb o _ _ f e _=>⟨o.slots,k b o (λz=>f (by simp[z])) e⟩) (λ_ _ _ _ n=>n)
  (λb o f e=>⟨o,k b o (λz=>f (by simp[z])) e⟩) (λ_ _ e=>e) (λ_ _ _ e=>e) (λb J e=>⟨#[],by rw[e];simp⟩) (λm D=>?_) (λb u e=>?_) I.bare
 · have e:b=a:=by simpa using C
   subst e;exact⟨y,i,A,B⟩
 · obtain⟨o,E,F,G,r⟩:=D;exact⟨o,E,F,k _ o (Ne.symm i) G,r⟩
 · refine (I.hok b u e).stay (λc v f q=>k c v ?_ q) (λ_ q=>q) λ_ _ q=>q
   rcases f with z | z
   · rw[z];exact g b u e
   · exact g c _ z
def Inv.tok (I:Inv X T σ H s) (t:Nat):Inv X T σ H {s with toks:=t}:=I.un Un.refl I.hok
def Inv.kept {t':Nat} (I:Inv X T σ H s) (k:∀ b u,s.heap.get? b=some u->h'.get? b=some u):Inv X T σ H {s with heap:=h',toks:=t'}:=I.un (Un.kept k) (I.hok.kept k)
def Inv.laid {a:Addr} {o:HO} {t':Nat} (I:Inv X T σ H s) (k:∀ b u,s.heap.get? b=some u->h'.get? b=some u) (hp:s.heap.objs.size<=a) (new:bV X.prog X.w (upd H a o) h' a o) :
 Inv X T σ (upd H a o) {s with heap:=h',toks:=t'}:=I.un (Un.laid k hp (I.hok.fresh hp)) (I.hok.laid k hp new)
def Inv.write {x e:Addr} {o:HO} {t':Nat} (I:Inv X T σ H s) (mu:Mut (H x)) (he:e=x\/H e=some (.own x)) (k:∀ b u,b≠e->s.heap.get? b=some u->h'.get? b=some u) (heo:∃ u,h'.get? e=some u)
 (new:bV X.prog X.w (upd H x o) h' x o):Inv X T σ (upd H x o) {s with heap:=h',toks:=t'}:=I.un (Un.write mu he k heo) (I.hok.write mu he k heo new)
def Inv.pins_of (I:Inv X T σ H s) (h:∀ p∈pins',s.heap.get? p.1=some p.2/\H p.1=none/\p.1≠X.env.locals/\p.1∉X.fs/\∀ v,p.2.data≠.cell v):Inv X pins' σ H s :=
 ⟨I.ok,I.os,I.bare,I.base,I.loc,I.cell,I.free,I.freeC,λp a=>(mAp.mp a).elim (λz=>I.pin p (List.mem_append_left _ z)) (h p),I.hok,I.len⟩
def oV {N:List Str} (d:N.Nodup) {i j:Nat} (a:N[i]?=some x) (b:N[j]?=some x):i=j:=by
 obtain⟨f,c⟩:=gES.mp a;obtain⟨g,e⟩:=gES.mp b;exact (List.getElem_inj d).mp (c.trans e.symm)
def jn {M:Model} {A:Around} {E:VSP} {i:Nat} {x:Str} {v:V} {u:Value} {Q:Unit->Shared->Prop} (I:Inv X T σ H s) (hN:X.N.Nodup) (hi:X.N[i]?=some x) (C:Loc X.env.scope x) (r:bh v u)
 (h:∀ s',Inv X T (σ.set i (some v)) H s'->(∃ a,Heap.SameBut a s.heap s'.heap/\(a=X.env.locals\/X.env.cells.lookup x=some a))->Q () s') (hf:X.fn x=true\/X.env.scope.names.lookup x=some .local:=by first | exact .inl U | exact .inr U | assumption):wpAny M A (storeName X.env x u) Q E s:=by
 obtain⟨m,hn,hl⟩:=id I.loc;have W:(X.env.scope.kind==.class||(X.env.scope.kind==.module&&X.env.locals != X.env.globals))=false:=by rw[I.ok.kind];rfl
 have G:i<σ.length:=by rw[I.len];exact (gES.mp hi).1
 have K:=I.cne;have l:∀ {a:Addr} {S:Heap},(∃ o,s.heap.get? a=some o/\H a=none)->Heap.SameBut a s.heap S->HOk X.prog X.w H S:=λ{a S} ha f b ob e=>by
  obtain⟨_,_,D⟩:=ha;refine (I.hok b ob e).stay (λc w' B q=>(f.2 c ?_).trans q) (λ_ q=>q) λ_ _ q=>q;rintro rfl
  rcases B with rfl | B
  · rw[D] at e;cases e
  · rw[D] at B;cases B
 rcases C with J | J
 · refine wpAny_storeName_local J hn (λS Kz f=>?_) W;obtain⟨oL,_,_,hoL,_⟩:=id hn;refine h _ ⟨I.ok,I.os,I.bare,⟨λb o e n L C=>?_,λb o e n L C=>?_,I.base.free,λb o e C=>?_,I.base.tups,I.base.frzs,I.base.tbls⟩,⟨_,Kz,λj y v' t F e3=>?_⟩,λy c e=>?_,I.free,I.freeC,λp hp=>?_,l ⟨oL,hoL,I.free⟩ f,by simpa using I.len⟩ ⟨_,f,.inl U⟩
   · exact (f.2 b (Nat.ne_of_lt (Nat.lt_of_lt_of_le (Heap.lt_size e) I.ok.above))).trans (I.base.keep b o e n L C)
   · obtain⟨sl,t⟩:=I.base.slot b o e n L C;exact⟨sl,(f.2 b (Nat.ne_of_lt (Nat.lt_of_lt_of_le (Heap.lt_size e) I.ok.above))).trans t⟩
   · obtain⟨o',t⟩:=I.base.there b o e C;exact⟨o',(f.2 b (Nat.ne_of_lt (Nat.lt_of_lt_of_le (Heap.lt_size e) I.ok.above))).trans t⟩
   · by_cases P:j=i
     · subst P;rw[hi] at t;cases t;rw[List.getElem?_set_self G] at F;cases F;exact⟨u,r,.inl ⟨J,by simp⟩⟩
     · rw[List.getElem?_set_ne (Ne.symm P)] at F;obtain⟨u',r',q⟩:=hl j y v' t F e3;refine⟨u',r',?_⟩
       rcases q with ⟨k,e⟩ | ⟨k,c,e,z⟩
       · refine .inl ⟨k,?_⟩;have:y≠x:=λe=>P (oV hN t (e▸hi));simp[this,e]
       · exact .inr ⟨k,c,e,z.sameBut f (K y c e)⟩
   · obtain⟨w',z⟩:=I.cell y c e;exact⟨w',z.sameBut f (K y c e)⟩
   · obtain⟨e,n,ne,nf,d⟩:=I.pin p hp;exact⟨(f.2 p.1 ne).trans e,n,ne,nf,d⟩
 · have R:X.fn x=true:=by
    rcases hf with z | z
    · exact z
    · rw[z] at J;cases J
   obtain⟨c,B⟩:=I.ok.has x (.inl J);obtain⟨w',z⟩:=I.cell x c B;refine wpAny_storeName_cell I.ok.kind J B z (λS JA f=>?_);obtain⟨oc,Y,Z⟩:=id z;refine h {s with heap:=S} ⟨I.ok,I.os,I.bare,⟨λb o e n L C=>?_,λb o e n L C=>?_,I.base.free,λb o e C=>?_,I.base.tups,I.base.frzs,I.base.tbls⟩,⟨m,hn.sameBut f (Ne.symm (K x c B)),λj y v' t F e3=>?_⟩,λy c' e=>?_,I.free,I.freeC,λp hp=>?_,l ⟨oc,Y,I.freeC x c B⟩ f,by simpa using I.len⟩ ⟨c,f,.inr B⟩
   · exact (f.2 b (Nat.ne_of_lt (Nat.lt_of_lt_of_le (Heap.lt_size e) (I.ok.cab x c R B)))).trans (I.base.keep b o e n L C)
   · obtain⟨sl,t⟩:=I.base.slot b o e n L C;exact⟨sl,(f.2 b (Nat.ne_of_lt (Nat.lt_of_lt_of_le (Heap.lt_size e) (I.ok.cab x c R B)))).trans t⟩
   · obtain⟨o',t⟩:=I.base.there b o e C;exact⟨o',(f.2 b (Nat.ne_of_lt (Nat.lt_of_lt_of_le (Heap.lt_size e) (I.ok.cab x c R B)))).trans t⟩
   · by_cases P:j=i
     · subst P;rw[hi] at t;cases t;rw[List.getElem?_set_self G] at F;cases F;exact⟨u,r,.inr ⟨.inl J,c,B,JA⟩⟩
     · rw[List.getElem?_set_ne (Ne.symm P)] at F;obtain⟨u',r',q⟩:=hl j y v' t F e3;refine⟨u',r',?_⟩
       rcases q with q | ⟨k,c',e,z'⟩
       · exact .inl q
       · refine .inr ⟨k,c',e,z'.sameBut f ?_⟩;rintro rfl;exact P (oV hN t (I.ok.inj _ _ _ e B▸hi))
   · by_cases hcc:c'=c
     · subst hcc;exact⟨_,JA⟩
     · obtain⟨w2,z2⟩:=I.cell y c' e;exact⟨w2,z2.sameBut f hcc⟩
   · obtain⟨e,n,ne,nf,d⟩:=I.pin p hp;refine⟨(f.2 p.1 ?_).trans e,n,ne,nf,d⟩;intro q;rw[q,Y] at e;have q':oc=p.2:=Option.some.inj e;exact d w' (by rw[<- q'];exact Z)
def kP {M:Model} {A:Around} {E:VSP} {i:Nat} {x:Str} {v:V} {u:Value} {Q:Unit->Shared->Prop} (I:Inv X T σ H s) (hN:X.N.Nodup) (hi:X.N[i]?=some x) (hx:Loc X.env.scope x) (r:bh v u)
 (h:∀ s',Inv X T (σ.set i (some v)) H s'->Q () s') (hf:X.fn x=true\/X.env.scope.names.lookup x=some .local:=by first | exact .inl U | exact .inr U | assumption):wpAny M A (storeName X.env x u) Q E s :=
 jn I hN hi hx r (λs' I' _=>h s' I') hf
def Inv.call' (I:Inv X T σ H s) (d:s'.os=s.os) (u:Un (frs X.stack) ch H H' s.heap s'.heap) (a:HOk X.prog X.w H' s'.heap) (g:AllBare s'.gens)
 (f:∀ b∈ch,(b∈X.ex\/X.s₀.heap.objs.size<=b)/\b≠X.env.locals/\(∀ x c,X.env.cells.lookup x=some c->c≠b)/\∀ p∈X.pn++T,p.1≠b):Inv X T σ H' s':=by
 obtain⟨i,j,k,l,h⟩:=s';have e:=d;subst e;exact I.call u a g f
end
abbrev XK:=Value->Option Addr->Hp->Prop
abbrev St:=List (Option V)
abbrev VK:=V->Hp->Prop
abbrev TE:=St->Hp->VK->Prop
abbrev TT:=St->Hp->(Bool->Hp->Prop)->Prop
abbrev TA:=St->Hp->(List V->Hp->Prop)->Prop
structure iK where
  nx:St->Hp->Prop
  rt:VK
  bk:St->Hp->Prop:=λ_ _=>False
  ct:St->Hp->Prop:=λ_ _=>False
abbrev TS:=iK->St->Hp->Prop
def EP (X:Cx) (pins:AOs) (σ:St) (Q:VK) (u:Value) (s':Shared):Prop:=∃ v H',Inv X pins σ H' s'/\bh v u/\Q v H'
def TP (X:Cx) (pins:AOs) (σ:St) (Q:Bool->Hp->Prop) (b:Bool) (s':Shared):Prop:=∃ H',Inv X pins σ H' s'/\Q b H'
def AP (X:Cx) (pins:AOs) (σ:St) (Q:List V->Hp->Prop) (us:List Value) (s':Shared):Prop:=∃ vs H',Inv X pins σ H' s'/\b7 vs us/\Q vs H'
def SP (X:Cx) (pins:AOs) (D:iK) (f:Flow) (s':Shared):Prop :=
  match f with
  | .next=>∃ σ' H',Inv X pins σ' H' s'/\D.nx σ' H'
  | .brk=>∃ σ' H',Inv X pins σ' H' s'/\D.bk σ' H'
  | .cont=>∃ σ' H',Inv X pins σ' H' s'/\D.ct σ' H'
  | .ret u=>∃ v σ' H',Inv X pins σ' H' s'/\bh v u/\D.rt v H'
def PE (X:Cx) (e:Expr) (t:TE):Prop :=
  ∀ (pins:AOs) (s:Shared) (σ:St) (H:Hp) (Q:VK),Inv X pins σ H s->t σ H Q->wpAny ?N X.A (eval e X.env) (EP X pins σ Q) X.xe s
def PT (X:Cx) (e:Expr) (t:TT):Prop :=
  ∀ (pins:AOs) (s:Shared) (σ:St) (H:Hp) (Q:Bool->Hp->Prop),Inv X pins σ H s->t σ H Q->wpAny ?N X.A (isTrue e X.env (eval e X.env)) (TP X pins σ Q) X.xe s
def PW (X:Cx) (e:Expr) (t:TT):Prop :=
  ∀ (whole:Sem Value) (pins:AOs) (s:Shared) (σ:St) (H:Hp) (Q:Bool->Hp->Prop),Inv X pins σ H s->t σ H Q->wpAny ?N X.A (isTrue e X.env whole) (TP X pins σ Q) X.xe s
def PW.pt (h:PW X e t):PT X e t:=h _
def PA (X:Cx) (es:List Expr) (t:TA):Prop :=
  ∀ (pos:Pos) (pins:AOs) (s:Shared) (σ:St) (H:Hp) (Q:List V->Hp->Prop),Inv X pins σ H s->t σ H Q->wpAny ?N X.A (spliced (backTo pos (starEach es X.env))) (AP X pins σ Q) X.xe s
def PS (X:Cx) (st:Stmt) (t:TS):Prop :=
  ∀ (pins:AOs) (s:Shared) (σ:St) (H:Hp) (D:iK),Inv X pins σ H s->t D σ H->wpAny ?N X.A (exec st X.env) (SP X pins D) X.xe s
def PSs (X:Cx) (st:List Stmt) (t:TS):Prop :=
  ∀ (pins:AOs) (s:Shared) (σ:St) (H:Hp) (D:iK),Inv X pins σ H s->t D σ H->wpAny ?N X.A (execs st X.env) (SP X pins D) X.xe s
def thn {Q b:α->Shared->Prop} {E:VSP} (h:wpAny M A t Q E s) (c:∀ a s,Q a s->b a s):wpAny M A t b E s:=wpAny_mono h c λ_ _ x=>x
section
variable {X:Cx}
inductive Fq (o:Option (Option V)) (H:Hp) (Q:VK):Prop
  | mk (v:V) (h:o=some (some v)) (q:Q v H):Fq o H Q
inductive BlR (x:V) (H:Hp) (Q:Bool->Hp->Prop):Prop
  | mk (c:Bool) (h:x=.bl c) (q:Q c H):BlR x H Q
inductive CD (x:V) (H:Hp) (Q:Int->Hp->Prop):Prop
  | mk (i:Int) (h:x=.int i) (q:Q i H):CD x H Q
inductive B8 (x y:V) (H:Hp) (C:Int->Int->Prop) (g:Int->Int->V) (Q:VK):Prop
  | mk (i j:Int) (h:x=.int i) (h':y=.int j) (c:C i j) (q:Q (g i j) H):B8 x y H C g Q
inductive yd (x y:V) (H:Hp) (g:Int->Int->V) (Q:VK):Prop
  | mk (i j:Int) (h:x=.int i) (h':y=.int j) (q:Q (g i j) H):yd x y H g Q
def cw (i:Nat):TE:=λσ H Q=>Fq σ[i]? H Q
def tC (v:V):TE:=λ_ H Q=>Q v H
def BC {f:Pos} (n:X.N[i]?=some x) (o:Vis X.env.scope x) (g:(x==("__debug__":Str))=false:=by decide) (k:(x==("__classdict__":Str))=false:=by decide):PE X (.Name x f) (cw i):=by
 intro d s σ H Q I h;obtain⟨v,e,h⟩:=h;obtain⟨m,q,p⟩:=I.loc;obtain⟨u,r,l⟩:=p i x v n e o;have fin:EP X d σ Q u s:=⟨v,H,I,r,h⟩
 rcases l with ⟨b,t⟩ | ⟨b,c,j,a⟩
 · exact wpAny_Name (wpAny_loadName_local I.ok.kind b q t fin) g
 · rcases b with b | b
   · exact wpAny_Name (wpAny_loadName_cell I.ok.kind b j a fin) g
   · exact wpAny_Name (wpAny_loadName_free I.ok.kind b j a fin k) g
def pG {i j pos}:PE X (.Constant (.int i) j pos) (tC (.int i)):=λ_ _ _ H _ I h=>wpAny_Constant_int ⟨.int i,H,I.tok _,⟨_,U⟩,h⟩
def bf {b j pos}:PE X (.Constant (.bool b) j pos) (tC (.bl b)):=λ_ _ _ H _ I h=>Constant_bool ⟨.bl b,H,I,U,h⟩
def qH {j pos}:PE X (.Constant .none j pos) (tC .non):=λ_ _ _ H _ I h=>Constant_none ⟨.non,H,I,U,h⟩
def pD {x j pos}:PE X (.Constant (.str x) j pos) (tC (.str x)):=λ_ _ _ H _ I h=>Calls.Constant_str ⟨.str x,H,I.tok _,⟨_,U⟩,h⟩
def Gl (X:Cx) (x:Str):Prop:=X.env.kindOf x=some .globalImplicit
def sD {E:VSP} {σ:St} {Q:VSP} (I:Inv X pins σ H s) (a:Gl X x) (b:X.mg x=some u) (h:Q u s)
 (c:(x==("__debug__":Str))=false:=by decide):wpAny ?N X.A (eval (.Name x pos) X.env) Q E s :=
 Calls.Name_function_global I.ok.kind a (Calls.loadGlobal_global (by rw[I.ok.glob];exact I.mod.glob.keeps I.bk) b h) c
def e8 {E:VSP} {σ:St} {a:Pos} {Q:VSP} (I:Inv X pins σ H s) (c:Gl X x) (g:X.mg x=none) (b:bootBuiltins x=some u) (h:Q u s)
 (d:x≠"__name__":=by decide) (e:(x==("__debug__":Str))=false:=by decide):wpAny ?N X.A (eval (.Name x a) X.env) Q E s:=by
 obtain⟨j,f,i⟩:=I.mod.blt;exact Calls.Name_function_global I.ok.kind c (Calls.loadGlobal_builtin (by rw[I.ok.glob];exact I.mod.glob.keeps I.bk) g (by rw[I.ok.blt];exact f.keeps I.bk) ((i x d).trans b) h) e
def cD (a:Gl X x) (b:X.mg x=some u) (r:bh v u) (c:(x==("__debug__":Str))=false:=by decide):PE X (.Name x pos) (tC v) :=
 λ_ _ _ H _ I h=>sD I a b ⟨v,H,I,r,h⟩ c
def ba {a:Pos} (c:Gl X x) (f:X.mg x=none) (b:bootBuiltins x=some u) (r:bh v u) (e:x≠"__name__":=by decide) (d:(x==("__debug__":Str))=false:=by decide):PE X (.Name x a) (tC v) :=
 λ_ _ _ H _ I h=>e8 I c f b ⟨v,H,I,r,h⟩ e d
variable {a b:Expr} {p r:TE} {o:Pos}
def PC (X:Cx) (op:CmpOp) (a b:Expr) (t:TE):Prop :=
  ∀ (pins:AOs) (s:Shared) (σ:St) (H:Hp) (Q:VK),Inv X pins σ H s->t σ H Q ->
    wpAny ?N X.A (eval a X.env) (λv s₁=>wpAny ?N X.A (eval b X.env) (λu s₂=>wpAny ?N X.A (compareOp op v u) (EP X pins σ Q) X.xe s₂) X.xe s₁) X.xe s
def tB (t:TE):TT:=λσ H Q=>t σ H λx H1=>BlR x H1 Q
def ww {op:CmpOp} {t:TE} (h:PC X op a b t) (h1:behindInMarks op b=false:=by first | exact nobehind _ ?G ?G | rfl):PE X (.Compare a [op] [b] o) t:=λpins s σ H Q I hw=>wpAny_Compare1 (h pins s σ H Q I hw) h1
def l0 {op:CmpOp} {t:TE} (h:PC X op a b t) (h1:behindInMarks op b=false:=by first | exact nobehind _ ?G ?G | rfl):PT X (.Compare a [op] [b] o) (tB t):=by
 intro pins s σ H Q I hw;refine wpAny_isTrue_Compare1 (thn (h pins s σ H _ I hw) λv s1 h1=>thn h1 λu s2 h2=>thn h2 λc s3 zy5=>?_) h1;obtain⟨x,H1,I1,r1,q1⟩:=zy5;obtain⟨d,rfl,q⟩:=q1;cases r1;exact wpAny_truthy_bool ⟨H1,I1,q⟩
def aQ (h:PE X e t) (he:∀ a,isTrue e X.env a=(do let v <- a;standAt e.pos;holding [v] (truthy v)):=by intro _;rfl):PT X e (tB t):=by
 intro b s σ H Q I k;refine isTrue_plain (thn (h b s σ H _ I k) λv l c=>?_) (he _);obtain⟨x,i,f,g,j⟩:=c;obtain⟨d,rfl,q⟩:=j;cases g;exact wpAny_truthy_bool ⟨i,f,q⟩
variable {q w:TT} {bT:List Expr}
def Bo (t u:TT):TT:=λσ H Q=>t σ H λc H1=>if c=true then u σ H1 Q else Q false H1
def tOr (t u:TT):TT:=λσ H Q=>t σ H λc H1=>if c=true then Q true H1 else u σ H1 Q
def yD (t:TT):TT:=λσ H Q=>t σ H λc H1=>Q (!c) H1
def cX (d:PT X a q):PW X (.BoolOp .And [a] o) q:=by
 intro g b s σ H Q I h;refine isTrue_and (thn (d b s σ H Q I h) λc f e=>?_);cases c with
 | true=>exact isTrue_and_nil e
 | false=>exact e
def bJ (d:PT X a q):PW X (.BoolOp .Or [a] o) q:=by
 intro g b s σ H Q I h;refine isTrue_or (thn (d b s σ H Q I h) λc f e=>?_);cases c with
 | false=>exact isTrue_or_nil e
 | true=>exact e
def dw (l:PT X a q) (j:PW X (.BoolOp .And (b::bT) o) w):PW X (.BoolOp .And (a::b::bT) o) (Bo q w):=by
 intro k d s σ H Q I h;refine isTrue_and (thn (l d s σ H _ I h) λc m e=>?_);obtain⟨g,f,i⟩:=e;cases c with
 | true=>exact j k d m σ g Q f i
 | false=>exact⟨g,f,i⟩
def bF (l:PT X a q) (j:PW X (.BoolOp .Or (b::bT) o) w):PW X (.BoolOp .Or (a::b::bT) o) (tOr q w):=by
 intro k d s σ H Q I h;refine isTrue_or (thn (l d s σ H _ I h) λc m e=>?_);obtain⟨g,f,i⟩:=e;cases c with
 | true=>exact⟨g,f,i⟩
 | false=>exact j k d m σ g Q f i
def aU (e:PT X a q):PT X (.UnaryOp .Not a o) (yD q):=by
 intro b s σ H Q I h;exact isTrue_not (e b s σ H (λc d=>Q (!c) d) I h)
def Ak (p r:TE):TE:=λσ H Q=>p σ H λx H1=>∃ c,x=.bl c/\if c=true then r σ H1 Q else Q (.bl false) H1
def CW (p r:TE):TE:=λσ H Q=>p σ H λx H1=>∃ c,x=.bl c/\if c=true then Q (.bl true) H1 else r σ H1 Q
def Ag (p:TE):TE:=λσ H Q=>p σ H λx H1=>∃ c,x=.bl c/\Q (.bl (!c)) H1
def de {op} (h:PE X a t):PE X (.BoolOp op [a] o) t:=λpins s σ H Q I c=>BoolOp_one (h pins s σ H Q I c)
def cJ (l:PE X a p) (j:PE X (.BoolOp .And (b::bT) o) r):PE X (.BoolOp .And (a::b::bT) o) (Ak p r):=by
 intro d s σ H Q I h;refine BoolOp_and (thn (l d s σ H _ I h) λv m f=>?_);obtain⟨x,i,g,k,e⟩:=f;obtain⟨c,rfl,e⟩:=e;cases k;refine wpAny_truthy_bool ?_;cases c with
 | true=>exact j d m σ i Q g e
 | false=>exact⟨.bl false,i,g,U,e⟩
def E8 (l:PE X a p) (j:PE X (.BoolOp .Or (b::bT) o) r):PE X (.BoolOp .Or (a::b::bT) o) (CW p r):=by
 intro d s σ H Q I h;refine BoolOp_or (thn (l d s σ H _ I h) λv m e=>?_);obtain⟨x,i,g,k,f⟩:=e;obtain⟨c,rfl,f⟩:=f;cases k;refine wpAny_truthy_bool ?_;cases c with
 | false=>exact j d m σ i Q g f
 | true=>exact⟨.bl true,i,g,U,f⟩
def wo (i:PE X a p):PE X (.UnaryOp .Not a o) (Ag p):=by
 intro d s σ H Q I h;refine UnaryOp_ (thn (i d s σ H _ I h) λv k b=>?_);obtain⟨x,j,f,g,e⟩:=b;obtain⟨c,rfl,e⟩:=e;cases g;exact not_of (wpAny_truthy_bool ⟨.bl (!c),j,f,U,e⟩)
def tIf (t:TT) (p r:TE):TE:=λσ H Q=>t σ H λc H1=>if c=true then p σ H1 Q else r σ H1 Q
def l8 (n:PT X c q) (m:PE X a p) (l:PE X b r):PE X (.IfExp c a b o) (tIf q p r):=by
 intro e s σ H Q I h;refine wpAny_IfExp (thn (n e s σ H _ I h) λd k f=>?_);obtain⟨j,g,i⟩:=f;cases d with
 | true=>exact m e k σ j Q g i
 | false=>exact l e k σ j Q g i
end
def SqL (K:Fg) (H:Hp) (a:Addr) (xs:List V):Prop :=
  Rd H a (.lst xs) \/
    ∃ (o:Obj) (its:Array Value) (n:Nat),K.lookup a=some o/\o.cls=.type "list"/\o.dict=none/\o.data=.seq its n/\its.size<=sizeLine/\b7 xs its.toList
def SqT (K:Fg) (H:Hp) (a:Addr) (xs:List V):Prop :=
  Rd H a (.tup xs) \/
    ∃ (o:Obj) (its:Array Value) (n:Nat),K.lookup a=some o/\o.cls=.type "tuple"/\o.data=.seq its n/\its.size<=sizeLine/\b7 xs its.toList
def oy:Value->Option V
  | .none=>some .non
  | .bool b=>some (.bl b)
  | .int i _=>some (.int i)
  | .str x _=>some (.str x)
  | .bytes b _=>some (.byt b)
  | .float b _=>some (.flt b)
  | .ref a=>some (.ref a)
  | .type n=>some (.ty n)
  | _=>none
def bh.abs (r:bh x u):oy u=some x:=by
 cases x with
 | non=>cases r;rfl
 | bl _=>cases r;rfl
 | int _=>obtain⟨t,rfl⟩:=r;rfl
 | str _=>obtain⟨t,rfl⟩:=r;rfl
 | byt _=>obtain⟨t,rfl⟩:=r;rfl
 | flt _=>obtain⟨t,rfl⟩:=r;rfl
 | _=>cases r;rfl
def bh.inj (r:bh x u) (q:bh y u):x=y:=Option.some.inj (r.abs.symm.trans q.abs)
def b7.inj:∀ {xs ys:List V} {b:List Value},b7 xs b->b7 ys b->xs=ys:=by
 intro xs ys b h
 induction h generalizing ys with
 | nil=>intro a;cases a;rfl
 | cons r t c=>intro a;cases a with | cons d e=>rw[r.inj d,c e]
section
variable {X:Cx} {m:AOs} {q:St} {H:Hp} {s:Shared} {a:Addr} {xs ys:List V}
def SqL.of {K:Fg} (h:H a=some (.lst xs)):SqL K H a xs:=.inl (.inl h)
def SqT.of {K:Fg} (h:H a=some (.tup xs)):SqT K H a xs:=.inl (.inl h)
def Inv.list (I:Inv X m q H s) (h:SqL X.K H a xs):∃ b:List Value,b7 xs b/\PlainL s.heap a b.toArray/\xs.length<=sizeLine:=by
 rcases h with h | ⟨o,b,n,f,j,i,g,k,r⟩
 · obtain⟨z,b,n,r,e⟩:=h.ok I.hok;exact⟨b,r,⟨_,n,e,U,U,U⟩,z⟩
 · refine⟨b.toList,r,⟨o,n,I.kIn a o f,j,i,by simpa using g⟩,?_⟩;have e:=r.length;simp only[Array.length_toList] at e;lia
def Inv.tuple (I:Inv X m q H s) (h:SqT X.K H a xs):∃ b:List Value,b7 xs b/\IsTup s.heap a b.toArray/\xs.length<=sizeLine:=by
 rcases h with h | ⟨o,b,n,f,i,g,j,r⟩
 · obtain⟨z,b,r,p⟩:=h.ok I.hok;exact⟨b,r,p,z⟩
 · refine⟨b.toList,r,⟨o,I.kIn a o f,i,n,by simpa using g⟩,?_⟩;have e:=r.length;simp only[Array.length_toList] at e;lia
def Inv.list_inj (I:Inv X m q H s) (h:SqL X.K H a xs) (h':SqL X.K H a ys):xs=ys:=by
 obtain⟨c,r,⟨o,n,e,_,_,d⟩,_⟩:=I.list h;obtain⟨b,j,⟨k,l,f,_,_,g⟩,_⟩:=I.list h';rw[e] at f;cases f;rw[d] at g
 injection g with i _
 have:c=b:=by simpa using congrArg Array.toList i
 subst this;exact r.inj j
def Inv.tuple_inj (I:Inv X m q H s) (h:SqT X.K H a xs) (h':SqT X.K H a ys):xs=ys:=by
 obtain⟨c,r,⟨o,e,_,n,d⟩,_⟩:=I.tuple h;obtain⟨b,j,⟨k,f,_,l,g⟩,_⟩:=I.tuple h';rw[e] at f;cases f;rw[d] at g
 injection g with i _
 have:c=b:=by simpa using congrArg Array.toList i
 subst this;exact r.inj j
end
abbrev Cx.wish (X:Cx) (E:VSP):Cx:={X with xe:=E}
abbrev Cx.nox (X:Cx):Cx:=X.wish λ_ _=>False
def Cx.Ok.wish {X:Cx} (ok:X.Ok) (E:VSP):(X.wish E).Ok :=
 ⟨ok.mod,ok.kind,ok.glob,ok.blt,ok.above,ok.inj,ok.has,ok.cab,ok.hd,ok.frames,ok.stk,ok.exf,ok.bs,ok.bsz,ok.noex,ok.exfs,ok.funs,ok.frf⟩
def Cx.Ok.unwish {X:Cx} (ok:(X.wish E).Ok):X.Ok :=
 ⟨ok.mod,ok.kind,ok.glob,ok.blt,ok.above,ok.inj,ok.has,ok.cab,ok.hd,ok.frames,ok.stk,ok.exf,ok.bs,ok.bsz,ok.noex,ok.exfs,ok.funs,ok.frf⟩
section
variable {X:Cx} {c:AOs} {d:St} {H:Hp} {s:Shared} {E:VSP}
def Inv.wish (I:Inv X c d H s) (E:VSP):Inv (X.wish E) c d H s:=⟨I.ok.wish E,I.os,I.bare,I.base,I.loc,I.cell,I.free,I.freeC,I.pin,I.hok,I.len⟩
def Inv.unwish (I:Inv (X.wish E) c d H s):Inv X c d H s:=⟨I.ok.unwish,I.os,I.bare,I.base,I.loc,I.cell,I.free,I.freeC,I.pin,I.hok,I.len⟩
def SP.unwish (h:SP (X.wish E) c D f s'):SP X c D f s':=by
 cases f with
 | next=>obtain⟨a,b,I,q⟩:=h;exact⟨a,b,I.unwish,q⟩
 | brk=>obtain⟨a,b,I,q⟩:=h;exact⟨a,b,I.unwish,q⟩
 | cont=>obtain⟨a,b,I,q⟩:=h;exact⟨a,b,I.unwish,q⟩
 | ret u=>obtain⟨v,a,b,I,r,q⟩:=h;exact⟨v,a,b,I.unwish,r,q⟩
def PSs.nox {st:List Stmt} (h:PSs X.nox st t):PSs X st t:=λc s d H D I b =>
 wpAny_mono (h c s d H D (I.wish _) b) (λ_ _ q=>q.unwish) λ_ _ z=>False.elim z
end
section
variable {X:Cx} {p:Stmt} {bT:List Stmt} {t u:TS} {e:Expr} {te:TE} {o:Pos}
def Ah:TS:=λD σ H=>D.nx σ H
def Bj (t u:TS):TS:=λD σ H=>t {D with nx:=u D} σ H
def am:PSs X [] Ah:=λ_ _ σ H _ I h=>wpAny_execs_nil ⟨σ,H,I,h⟩
def pE (e:PS X p t) (i:PSs X bT u):PSs X (p::bT) (Bj t u):=by
 intro a s σ H D I h;refine wpAny_execs_cons (thn (e a s σ H {D with nx:=u D} I h) λf g q=>?_);cases f with
 | next =>
  obtain⟨b,c,d,q⟩:=q;exact i a g b c D d q
 | _=>exact q
def pH (b:PS X p t):PSs X [p] t:=by
 intro a s σ H D I h;refine wpAny_execs_cons (thn (b a s σ H D I h) λf c q=>?_);cases f with
 | next=>exact wpAny_execs_nil q
 | _=>exact q
def Inv.quiet {σ:St} (I:Inv X pins σ H s):interactive X.env=false:=by simp[interactive,I.ok.kind]
def Ai (te:TE):TS:=λD σ H=>te σ H λ_ H1=>D.nx σ H1
def cY (he:PE X e te) (d:swapsWith e none o.line X.env=pure false:=by rfl):PS X (.Expr e o) (Ai te):=by
 intro b s σ H D I h;refine wpAny_Expr_any (thn (he b s σ H _ I h) λv j a=>?_) I.quiet d;obtain⟨x,f,c,i,g⟩:=a;exact⟨σ,f,c,g⟩
def CV (te:TE):TS:=λD σ H=>te σ H D.rt
def ak (he:PE X e te):PS X (.Return (some e) o) (CV te):=by
 intro b s σ H D I h;refine wpAny_Return_some (thn (he b s σ H _ I h) λv i a=>?_);obtain⟨x,f,c,d,g⟩:=a;exact⟨x,σ,f,c,d,g⟩
def CZ (c:TT) (t u:TS):TS:=λD σ H=>c σ H λb H1=>if b=true then t D σ H1 else u D σ H1
def aE (n:PT X c tc) (m:PSs X a t) (l:PSs X b u):PS X (.If c a b o) (CZ tc t u):=by
 intro e s σ H D I h;refine wpAny_If (thn (n e s σ H _ I h) λd k f=>?_);obtain⟨j,g,i⟩:=f;cases d with
 | true=>exact m e k σ j D g i
 | false=>exact l e k σ j D g i
end
abbrev TG:=V->St->Hp->(St->Hp->Prop)->Prop
abbrev TGs:=List V->St->Hp->(St->Hp->Prop)->Prop
def PG (X:Cx) (target:Expr) (t:TG):Prop :=
  ∀ (pins:AOs) (s:Shared) (σ:St) (H:Hp) (v:V) (u:Value) (Q:St->Hp->Prop),Inv X pins σ H s->bh v u->t v σ H Q ->
    wpAny ?N X.A (assign target X.env u) (λ_ s'=>∃ σ' H',Inv X pins σ' H' s'/\Q σ' H') X.xe s
def PGs (X:Cx) (ts:List Expr) (t:TGs):Prop :=
  ∀ (pins:AOs) (s:Shared) (σ:St) (H:Hp) (vs:List V) (us:List Value) (Q:St->Hp->Prop),Inv X pins σ H s->b7 vs us->t vs σ H Q ->
    wpAny ?N X.A (assignInOrder ((assignEach ts X.env).map (·.2)) us) (λ_ s'=>∃ σ' H',Inv X pins σ' H' s'/\Q σ' H') X.xe s
abbrev Cu:=V->V->V->Hp->(Hp->Prop)->Prop
def Ft (X:Cx) (t:Cu):Prop :=
  ∀ (pins:AOs) (s:Shared) (σ:St) (H:Hp) (o i v:V) (ov iv u:Value) (Q:Hp->Prop),Inv X pins σ H s->bh o ov->bh i iv->bh v u->t o i v H Q ->
    wpAny ?N X.A (setItem ov iv u) (λ_ s'=>∃ H',Inv X pins σ H' s'/\Q H') X.xe s
abbrev TIp:=V->V->Hp->VK->Prop
def PIp (X:Cx) (op:Operator) (t:TIp):Prop :=
  ∀ (pins:AOs) (s:Shared) (σ:St) (H:Hp) (x y:V) (v u:Value) (Q:VK),Inv X pins σ H s->bh x v->bh y u->t x y H Q ->
    wpAny ?N X.A (inplaceOp op v u) (EP X pins σ Q) X.xe s
section
variable {X:Cx} {pos:Pos}
def cP (i:Nat):TG:=λv σ H Q=>Q (σ.set i (some v)) H
def ax (e:X.N.Nodup) (hi:X.N[i]?=some x) (d:Loc X.env.scope x) (c:X.fn x=true\/X.env.scope.names.lookup x=some .local:=by first | exact .inl U | exact .inr U | assumption):PG X (.Name x pos) (cP i):=by
 intro a s σ H v u Q I r h;exact wpAny_assign_Name (kP I e hi d r (λs' b=>⟨_,H,b,h⟩) c)
def pi:TGs:=λvs σ H Q=>vs=[]/\Q σ H
inductive ye (t:TG) (u:TGs) (vs:List V) (σ:St) (H:Hp) (Q:St->Hp->Prop):Prop
  | mk (v:V) (r:List V) (h:vs=v::r) (q:t v σ H λσ' H'=>u r σ' H' Q):ye t u vs σ H Q
def fD (t:TG) (u:TGs):TGs:=λvs σ H Q=>ye t u vs σ H Q
def bI:PGs X [] pi:=by
 intro a s σ H c b Q I r h;obtain⟨e,h⟩:=h;subst e;cases r;exact assignInOrder_nil ⟨σ,H,I,h⟩
def aF (j:PG X e t) (m:PGs X es u)
 (l:(assignEach (e::es) X.env).map (·.2)=assign e X.env::(assignEach es X.env).map (·.2):=by rfl):PGs X (e::es) (fD t u):=by
 intro a s σ H o q Q I r h;obtain⟨v,p,f,h⟩:=h;subst f;cases r with
 | cons r k =>
  rw[l];refine assignInOrder_cons (thn (j a s σ H _ _ _ I r h) λ_ n b=>?_);obtain⟨c,i,d,g⟩:=b;exact m a n c i _ _ Q d k g
inductive B9 (K:Fg) (n:Nat) (t:TGs) (v:V) (σ:St) (H:Hp) (Q:St->Hp->Prop):Prop
  | mk (a:Addr) (xs:List V) (h:v=.ref a) (s:SqT K H a xs) (l:xs.length=n) (q:t xs σ H Q):B9 K n t v σ H Q
def ph (K:Fg) (n:Nat) (t:TGs):TG:=λv σ H Q=>B9 K n t v σ H Q
def cv {k:Nat} (w:X.calm=true) (h:PGs X es t)
 (j:(assignEach es X.env).length=n:=by rfl) (x:(assignEach es X.env).findIdx? (·.1)=none:=by rfl):PG X (.Tuple es k pos) (ph X.K n t):=by
 intro c s σ H v u Q I r d;obtain⟨a,q,l,z,m,d⟩:=d;subst l;cases r;obtain⟨y,f,g,A⟩:=I.tuple z;refine assign_Tuple_tuple (I.ok.hd w) g (by simp[j,<- m,f.length]) x λh' p=>?_;have i:=I.kept (t':=s.toks) λb o e=>p b o (Nat.ne_of_lt (Heap.lt_size e)) e;exact h c _ σ H q _ Q i (by simpa using f) d
def Ha (to ti:TE) (t:Cu):TG:=λv σ H Q=>to σ H λo H1=>ti σ H1 λi H2=>t o i v H2 λH3=>Q σ H3
def BB (E:PE X o to) (hi:PE X i ti) (D:Ft X t)
 (F:∀ v,assign (.Subscript o i pos) X.env v=(do
 let ov <- holding [v] (eval o X.env)
 let iv <- holding [v,ov] (eval i X.env)
 standAt pos
 holding [v,ov,iv] (setItem ov iv v)
 release [v,ov,iv] []):=by intro _;rfl):PG X (.Subscript o i pos) (Ha to ti t):=by
 intro a s σ H v u Q I r h;rw[F];refine wB (wpAny_holding (thn (E a s σ H _ I h) λov q d=>?_));obtain⟨x,j,l,m,n⟩:=d;refine wB (wpAny_holding (thn (hi a q σ j _ l n) λiv C c=>?_));obtain⟨y,w,k,B,A⟩:=c;refine wB (wpAny_standAt (wB (wpAny_holding (thn (D a C σ w x y v ov iv u _ k m B r A) λ_ G e=>?_))));obtain⟨g,p,z⟩:=e;exact wpAny_release ⟨σ,g,p,z⟩
def vw (te:TE) (g:TG):TS:=λD σ H=>te σ H λx H1=>g x σ H1 D.nx
def gL (he:PE X e te) (n:PG X tg g) (k:swapsWithSole [tg] e pos.line X.env=pure false:=by rfl) (l:swappedStores [tg] e X.env=pure none:=by rfl)
 (j:(assignEach [tg] X.env).map (·.2)=[assign tg X.env]:=by rfl):PS X (.Assign [tg] e pos) (vw te g):=by
 intro a s σ H D I h;refine wpAny_Assign_stores (thn (he a s σ H _ I h) λv m b=>?_) k l;obtain⟨x,i,c,d,f⟩:=b;rw[j];exact thn (n a m σ i x v _ c d f) λ_ o q=>q
def pN {i:Nat} {x:Str} {e:Expr} {te:TE} {a:Pos} (n:X.N.Nodup) (hi:X.N[i]?=some x) (k:Loc X.env.scope x) (he:PE X e te) (o:swapsWith e (some (.Name x a)) pos.line X.env=pure false:=by rfl) (j:X.fn x=true\/X.env.scope.names.lookup x=some .local:=by first | exact .inl U | exact .inr U | assumption) :
 PS X (.Assign [.Name x a] e pos) (vw te (cP i)):=by
 intro c s σ H D I h;refine wpAny_Assign_Name (thn (he c s σ H _ I h) λv p b=>?_) o;obtain⟨y,l,d,f,g⟩:=b;exact kP d n hi k f (λs2 m=>⟨_,l,m,g⟩) j
def G4 (i:Nat) (te:TE) (ti:TIp):TS:=λD σ H=>∃ x,σ[i]?=some (some x)/\te σ H λy H1=>ti x y H1 λz H2=>D.nx (σ.set i (some z)) H2
def qE (R:X.N.Nodup) (hi:X.N[i]?=some x) (q:Loc X.env.scope x) (he:PE X e te) (W:PIp X z ti) (hf:X.fn x=true\/X.env.scope.names.lookup x=some .local:=by first | exact .inl U | exact .inr U | assumption):
 PS X (.AugAssign (.Name x pos') z e pos) (G4 i te ti):=by
 intro a s σ H D I h;obtain⟨v,Q,h⟩:=h;obtain⟨m,t,J⟩:=I.loc;have p:Vis X.env.scope x:=by rcases q with k | k;exact .inl k;exact .inr (.inl k)
 obtain⟨u,r,l⟩:=J i x v hi Q p;refine wpAny_AugAssign_Name ?_;have go:wpAny ?N X.A (eval e X.env) (λw g=>wpAny ?N X.A (inplaceOp z u w) (λr n=>wpAny ?N X.A (storeName X.env x r) (λ_=>SP X a D .next) X.xe n) X.xe g) X.xe s:=by
  refine thn (he a s σ H _ I h) λw M o=>?_;obtain⟨y,B,F,G,K⟩:=o;refine thn (W a M σ B v y u w _ F r G K) λz Z j=>?_;obtain⟨Y,O,C,T,S⟩:=j;exact kP C R hi q T (λs3 L=>⟨_,O,L,S⟩) hf
 rcases l with ⟨d,P⟩ | ⟨d,c,E,f⟩
 · exact wpAny_loadName_local I.ok.kind d t P go
 · rcases d with d | d
   · exact wpAny_loadName_cell I.ok.kind d E f go
   · rcases q with k | k
     · have:X.env.scope.names.lookup x=some .free:=d;rw[k] at this;cases this
     · have:X.env.scope.names.lookup x=some .free:=d;rw[k] at this;cases this
def ipI (f:Int->Int->Int):TIp:=λx y H Q=>∃ i j,x=.int i/\y=.int j/\Q (.int (f i j)) H
def C8:PIp X .Add (ipI λi j=>i+j):=by
 intro a s σ H x y v u Q I b c h;obtain⟨i,j,d,e,q⟩:=h;subst d;subst e;obtain⟨t,rfl⟩:=b;obtain⟨f,rfl⟩:=c;exact iadd_int ⟨.int _,H,I.tok _,⟨_,U⟩,q⟩
end
section
variable {X:Cx} {pos:Pos}
def vm (c:TT) (tb:TS):TS:=λD σ H=>∃ W:Nat->St->Hp->Prop,(∃ m,W m σ H)/\∀ m σ H,W m σ H ->
  c σ H λb H1=>if b=true then ∃ N:St->Hp->Prop,(∀ σ' H',N σ' H'->∃ m',m'<m/\W m' σ' H')/\tb {D with nx:=N,ct:=N,bk:=D.nx} σ H1 else D.nx σ H1
def l4 (B:PassesOwn ?N X.A X.env X.xe) (E:PT X c tc) (O:PSs X Q S):PS X (.While c Q [] pos) (vm tc S):=by
 intro a s Y H D I h;obtain⟨W,⟨G,L⟩,k⟩:=h;refine wpAny_While (codeAny_whileLoop (λn K=>∃ j y,Inv X a j y K/\W n j y) ?_ G ⟨Y,H,I,L⟩);rintro n J ⟨e,u,F,C⟩;refine wpAny_passesOwn B (thn (E a J e u _ F (k n e u C)) λb M i=>?_);obtain⟨x,v,l⟩:=i;cases b with
 | true =>
  obtain⟨N,z,l⟩:=l;rw[if_pos U];refine wpAny_passesOwn B (thn (O a M e x _ v l) λf P p=>?_);cases f with
  | next =>
   obtain⟨d,g,o,m⟩:=p;obtain⟨r,q,t⟩:=z d g m;exact⟨r,q,d,g,o,t⟩
  | cont =>
   obtain⟨d,g,o,m⟩:=p;obtain⟨r,q,t⟩:=z d g m;exact⟨r,q,d,g,o,t⟩
  | _=>exact p
 | false =>
  rw[if_neg Bool.false_ne_true];exact wpAny_execs_nil ⟨e,x,v,l⟩
end
structure It where
  go:Nat->Hp->Prop
  yld:Nat->Hp->V->Hp->Prop
  stop:Nat->Hp->Prop
def jd (X:Cx) (pins:AOs) (H:Hp) (b:Addr):Prop :=
  H b=none/\b≠X.env.locals/\b∉X.fs/\(b∈X.ex\/X.s₀.heap.objs.size<=b)/\(∀ x c,X.env.cells.lookup x=some c->c≠b)/\∀ p∈X.pn++pins,p.1≠b
def Inv.fpOk {σ:St} {b:Addr} (I:Inv X pins σ H s) (a:s.heap.objs.size<=b) (d:H' b=none):jd X pins H' b:=by
 refine⟨d,Nat.ne_of_gt (Nat.lt_of_lt_of_le I.lt a),I.nofs a,.inr (Nat.le_trans I.sz a),λx c e z=>?_,λp f z=>?_⟩
 · obtain⟨v,q⟩:=I.cell x c e;exact absurd (Nat.lt_of_lt_of_le q.lt (by rw[z];exact a)) (Nat.lt_irrefl _)
 · exact absurd (Nat.lt_of_lt_of_le (Heap.lt_size (I.pin p f).1) (by rw[z];exact a)) (Nat.lt_irrefl _)
structure kh (P:Program) (w:World) (K:Fg) (tg:Expr) (J:It) (fp:List Addr) (it:Addr) (tn:Nat->Heap->Prop):Prop where
  mem:it∈fp
  obj:∀ i h,tn i h->∀ b∈fp,∃ o,h.get? b=some o/\∀ v,o.data≠.cell v
  keep:∀ i h h',tn i h->(∀ b∈fp,∀ o,h.get? b=some o->h'.get? b=some o)->tn i h'
  item:∀ (X:Cx),X.prog=P->X.w=w->X.K=K->X.calm=true->∀ (i:Nat) (pins:AOs) (s:Shared) (σ:St) (H:Hp) (E:VSP),Inv X pins σ H s->(∀ b∈fp,jd X pins H b)->tn i s.heap->J.go i H ->
    wpAny (model P w) X.A (pyNext (.ref it)) (λr s1=>∃ u,r=some u /\
      wpAny (model P w) X.A (letOwnedTupleGo tg (.ref it) u) (λ_ s2=>∃ x H',Inv X pins σ H' s2/\bh x u/\J.yld i H x H'/\tn (i+1) s2.heap/\∀ b∈fp,H' b=none) E s1) E s
  done:∀ (X:Cx),X.prog=P->X.w=w->X.K=K->X.calm=true->∀ (i:Nat) (pins:AOs) (s:Shared) (σ:St) (H:Hp) (E:VSP),Inv X pins σ H s->(∀ b∈fp,jd X pins H b)->tn i s.heap->J.stop i H ->
    wpAny (model P w) X.A (pyNext (.ref it)) (λr s1=>r=none/\Inv X pins σ H s1) E s
  self:∀ (A:Around) (i:Nat) (s:Shared) (Q:VSP) (E:VSP),tn i s.heap->Q (.ref it) s->wpAny (model P w) A (pyIter (.ref it)) Q E s
abbrev TI:=St->Hp->(It->Hp->Prop)->Prop
def PIE (X:Cx) (pins:AOs) (σ:St) (tg:Expr) (R:It->Hp->Prop) (itv:Value) (s2:Shared):Prop :=
  ∃ (it:Addr) (fp:List Addr) (tn:Nat->Heap->Prop) (J:It) (H':Hp),itv=.ref it/\Inv X pins σ H' s2/\kh X.prog X.w X.K tg J fp it tn/\tn 0 s2.heap/\(∀ b∈fp,jd X pins H' b)/\R J H'
def PI (X:Cx) (tg iter:Expr) (wi:TI):Prop :=
  ∀ (pins:AOs) (s:Shared) (σ:St) (H:Hp) (R:It->Hp->Prop),Inv X pins σ H s->wi σ H R ->
    wpAny ?N X.A (eval iter X.env) (λv s1=>wpAny ?N X.A (pyIter v) (PIE X pins σ tg R) X.xe s1) X.xe s
def pb {E:VSP} (e:s.heap.get? it=some o) (c:o.cls=.type n) (d:o.data=.fields vs)
 (f:["enumerate","zip","dict_itemiterator","dict_reverseitemiterator","odict_iterator","itertools.zip_longest","itertools.pairwise"].contains n=false) (a:Q () s):wpAny M A (letOwnedTupleGo b (.ref it) u) Q E s:=by
 unfold letOwnedTupleGo;cases b <;> first
  | exact wP a
  | (cases u <;> first
      | exact wP a
      | (refine wB (wpAny_load e ?_)
         rw[c,d];show wpAny M A (if (["enumerate","zip","dict_itemiterator","dict_reverseitemiterator","odict_iterator","itertools.zip_longest","itertools.pairwise"].contains n&&vs[0]?==some (rawInt _))=true then _ else _) Q E s;rw[if_neg (by grind)];exact wP a))
def Itl (K:Fg) (a:Addr):It :=
  ⟨λi H=>∃ xs x,SqL K H a xs/\xs[i]?=some x,λi H x H'=>H'=H/\∀ xs,SqL K H a xs->xs[i]?=some x,λi H=>∃ xs,SqL K H a xs/\xs.length<=i⟩
def Itt (K:Fg) (a:Addr):It :=
  ⟨λi H=>∃ xs x,SqT K H a xs/\xs[i]?=some x,λi H x H'=>H'=H/\∀ xs,SqT K H a xs->xs[i]?=some x,λi H=>∃ xs,SqT K H a xs/\xs.length<=i⟩
def Itr (lo:Int) (n:Nat):It:=⟨λi _=>i<n,λi H x H'=>H'=H/\x=.int (lo+i),λi _=>n<=i⟩
def tW {P:Program} {w:World} {K:Fg} {T:Expr} (a g:Addr):kh P w K T (Itl K a) [g] g (λi h=>h.IsListIter g a i) where
 mem:=by simp
 obj:=λi h f b j=>by
  have e:b=g:=by simpa using j
  ext n
 keep:=λi h h' f k=>f.at λo e=>k g ?B o e
 item:=by
  intro X r v A M i l s σ H E I n f D;subst r v A;obtain⟨R,x,q,J⟩:=D;obtain⟨y,G,p,O⟩:=I.list q;obtain⟨u,Z,Q⟩:=G.get J;obtain⟨C,F,Y,L,B,t⟩:=n g ?B;refine wpAny_pyNext_list_item f p.isList (by simpa using Z) λh' m sb=>?_;have S:=I.turned (t':=s.toks) (λb o j e=>(sb.2 b j).trans e) C F L B t;obtain⟨o,e,c,d⟩:=id m;exact⟨u,U,pb e c d ?G ⟨x,H,S,Q,⟨U,λys hy=>by rw[I.list_inj hy q];exact J⟩,m,λb j=>(n b j).1⟩⟩
 done:=by
  intro X r v A M i l s σ H E I n f D;subst r v A;obtain⟨R,q,J⟩:=D;obtain⟨y,G,p,O⟩:=I.list q;obtain⟨C,F,Y,L,B,t⟩:=n g ?B;have hl:=G.length;exact wpAny_pyNext_list_end (I.ok.hd M) f p.isList (by simp;lia) λh' W=>⟨U,I.turned (λb o j e=>W b o j e) C F L B t⟩
 self:=λ_ _ _ _ _ f h=>wpAny_pyIter_listiter f h
def qr {P:Program} {w:World} {K:Fg} {T:Expr} (a j:Addr):kh P w K T (Itt K a) [j] j (λi h=>h.IsTupleIter j a i) where
 mem:=by simp
 obj:=λi h f b l=>by
  have e:b=j:=by simpa using l
  ext n
 keep:=λi h h' f k=>f.at λo e=>k j ?B o e
 item:=by
  intro X t y A M i m s σ H E I q f D;subst t y A;obtain⟨R,x,r,J⟩:=D;obtain⟨g,G,p,O⟩:=I.tuple r;obtain⟨u,Z,Q⟩:=G.get J;obtain⟨C,F,Y,L,B,v⟩:=q j ?B;refine wpAny_pyNext_tuple_item f (show s.heap.IsTuple a g.toArray from p) (by simpa using Z) λh' n sb=>?_;have S:=I.turned (t':=s.toks) (λb o l e=>(sb.2 b l).trans e) C F L B v;obtain⟨o,e,c,d⟩:=id n;exact⟨u,U,pb e c d ?G ⟨x,H,S,Q,⟨U,λys hy=>by rw[I.tuple_inj hy r];exact J⟩,n,λb l=>(q b l).1⟩⟩
 done:=by
  intro X t y A M i m s σ H E I q f D;subst t y A;obtain⟨R,r,J⟩:=D;obtain⟨g,G,p,O⟩:=I.tuple r;obtain⟨C,F,Y,L,B,v⟩:=q j ?B;have hl:=G.length;exact wpAny_pyNext_tuple_end (I.ok.hd M) f (show s.heap.IsTuple a g.toArray from p) (by simp;lia) λh' W=>⟨U,I.turned (λb o l e=>W b o l e) C F L B v⟩
 self:=λ_ _ _ _ _ f h=>wpAny_pyIter_tupleiter f h
def qt {P:Program} {w:World} {K:Fg} {L:Expr} (d:Addr) (lo:Int) (n:Nat):kh P w K L (Itr lo n) [d] d (λi h=>IsRangeIter h d (lo+(i:Nat)*1) ((n:Int)-(i:Nat)) 1) where
 mem:=by simp
 obj:=λi h a b f=>by
  have e:b=d:=by simpa using f
  subst e;exact⟨_,a,λv z=>by
    have J:=z;cases J⟩
 keep:=λi h C a k=>k d ?B _ a
 item:=by
  intro X l q r p i c s R H E I j a x;subst l q r;obtain⟨v,y,N,A,u,m⟩:=j d ?B;have W:=Walks.range (prog:=X.prog) (w:=X.w) (I.ok.hd p) d lo 1 n;refine W.item i s _ _ x a λv C tk O g G=>?_;obtain⟨t,rfl⟩:=O;have F:Inv X c R H {s with heap:=C,toks:=tk}:=I.turned (λb o f e=>G b o (by simpa using f) e) v y A u m;refine⟨_,U,pb g U U ?G ⟨.int (lo+i),H,F,⟨t,?_⟩,⟨U,U⟩,g,λb f=>(j b f).1⟩⟩;rw[Int.mul_one]
 done:=by
  intro X l q r p i c s R H E I j a x;subst l q r;obtain⟨v,y,N,A,u,m⟩:=j d ?B;exact wpAny_pyNext_range_end (I.ok.hd p) a (by have:n<=i:=x;lia) λh' M=>⟨U,I.turned (λb o f e=>M b o f e) v y A u m⟩
 self:=λ_ _ _ _ _ a h=>wpAny_pyIter_rangeiter a h
section
variable {X:Cx} {tg:Expr}
def wX (K:Fg) (tl:TE):TI:=λσ H R=>tl σ H λx H1=>∃ a,x=.ref a/\(∃ xs,SqL K H1 a xs)/\R (Itl K a) H1
def GU (K:Fg) (tl:TE):TI:=λσ H R=>tl σ H λx H1=>∃ a,x=.ref a/\(∃ xs,SqT K H1 a xs)/\R (Itt K a) H1
def eC (j:PE X l tl):PI X tg l (wX X.K tl):=by
 intro c s σ H R I h;refine thn (j c s σ H _ I h) λv g d=>?_;obtain⟨x,m,f,i,k⟩:=d;obtain⟨a,e,⟨w,t⟩,q⟩:=k;subst e;cases i;obtain⟨r,v,p,u⟩:=f.list t;refine wpAny_pyIter_list p.isList ?_;refine⟨g.heap.objs.size,[g.heap.objs.size],_,_,m,U,f.kept λb o e=>hpS _ e,tW a _,⟨_,Heap.get?_push_size _ U,U,U⟩,λb n=>?_,q⟩;have e:b=g.heap.objs.size:=by simpa using n
 subst e;exact f.fpOk ?M (f.hok.fresh ?M)
def cI (k:PE X l tl):PI X tg l (GU X.K tl):=by
 intro c s σ H R I h;refine thn (k c s σ H _ I h) λv g d=>?_;obtain⟨x,n,f,j,m⟩:=d;obtain⟨a,e,⟨w,t⟩,q⟩:=m;subst e;cases j;obtain⟨i,v,p,u⟩:=f.tuple t;refine wpAny_pyIter_tuple (show g.heap.IsTuple a i.toArray from p) ?_;refine⟨g.heap.objs.size,[g.heap.objs.size],_,_,n,U,f.kept λb o e=>hpS _ e,qr a _,⟨_,Heap.get?_push_size _ U,U,U⟩,λb r=>?_,q⟩;have e:b=g.heap.objs.size:=by simpa using r
 subst e;exact f.fpOk ?M (f.hok.fresh ?M)
def oO {c:AOs} {h:St} {H:Hp} {s:Shared} {R:It->Hp->Prop} {E:VSP} {lo hi:Int} {t u v:Tok} {i:Nat} (I:Inv X c h H s) (l:-(2 ^ 62)<=lo) (m:lo<2 ^ 62) (n:-(2 ^ 62)<=hi) (p:hi<2 ^ 62)
 (q:R (Itr lo (hi-lo).toNat) H):wpAny ?N X.A (pyIter ?V) (PIE X c h z R) E {s with heap:=s.heap.push {cls:=.type "range",data:=.fields #[.int lo t,.int hi u,.int 1 v]},toks:=i}:=by
 refine wpAny_pyIter_range (IsRange.new ..) (small_one l m n p) ?_;have j:Inv X c h H {s with heap:=s.heap.push {cls:=.type "range",data:=.fields #[.int lo t,.int hi u,.int 1 v]},toks:=i}:=I.kept λb o e=>hpS _ e;refine⟨(s.heap.push {cls:=.type "range",data:=.fields #[.int lo t,.int hi u,.int 1 v]}).objs.size,[(s.heap.push {cls:=.type "range",data:=.fields #[.int lo t,.int hi u,.int 1 v]}).objs.size],_,_,H,U,
   j.kept (t':=i) λb o e=>hpS _ e,qt _ lo (hi-lo).toNat,?_,λb r=>?_,q⟩
 · have x:lo+((0:Nat):Int)*1=lo:=by simp
   have y:(((hi-lo).toNat:Nat):Int)-((0:Nat):Int)=Builtin.Range.rangeSize lo hi 1:=by rw[rangeSize_one];split <;> lia
   show IsRangeIter _ _ (lo+((0:Nat):Int)*1) ((((hi-lo).toNat:Nat):Int)-((0:Nat):Int)) 1;rw[x,y];exact Heap.get?_push_size _ U
 · have e:b=(s.heap.push {cls:=.type "range",data:=.fields #[.int lo t,.int hi u,.int 1 v]}).objs.size:=by simpa using r
   subst e;exact j.fpOk ?M (j.hok.fresh ?M)
def Aw (ta:TA):TI:=λσ H R=>ta σ H λvs H1=>∃ j:Int,vs=[.int j]/\-(2 ^ 62)<=j/\j<2 ^ 62/\R (Itr 0 j.toNat) H1
def F8 (ta:TA):TI:=λσ H R=>ta σ H λvs H1=>∃ i j:Int,vs=[.int i,.int j]/\(-(2 ^ 62)<=i/\i<2 ^ 62/\-(2 ^ 62)<=j/\j<2 ^ 62)/\R (Itr i (j-i).toNat) H1
def bE {a:Expr} {ta:TA} {p pos:Pos} (hg:Gl X "range") (hm:X.mg "range"=none) (ha:PA X [a] ta) (hs:starEach [a] X.env=[(false,eval a X.env)]:=by rfl):PI X tg (.Call (.Name "range" p) [a] [] pos) (Aw ta):=by
 intro pins s σ H R I h;refine Call_ (e8 I hg hm boot_range (PyProof.Rows.callWith_type1 (thn (ha pos pins s σ H _ I h) λus s1 zy34=>?_) hs U));obtain⟨vs,H1,I1,r1,q1⟩:=zy34;obtain⟨j,e,q1,q2,q⟩:=q1;subst e;cases r1 with
 | cons r rr =>
  cases rr;obtain⟨t,rfl⟩:=r;exact call_range_1 (oO I1 (by lia) (by lia) q1 q2 (by simpa using q))
def uc {p g:Pos} (u:Gl X "range") (w:X.mg "range"=none) (A:PA X [a,b] ta) (z:starEach [a,b] X.env=[(false,eval a X.env),(false,eval b X.env)]:=by rfl) (d:starEach [b] X.env=[(false,eval b X.env)]:=by rfl):
 PI X tg (.Call (.Name "range" p) [a,b] [] g) (F8 ta):=by
 intro c s σ H R I h;refine Call_ (e8 I u w boot_range (PyProof.Rows.callWith_type1 (thn (A g c s σ H _ I h) λus D f=>?_) (by rw[z,d]) (by rw[d];rfl)));obtain⟨C,B,n,o,k⟩:=f;obtain⟨i,j,e,⟨k,y,v,x⟩,q⟩:=k;subst e;cases o with
 | cons r l =>
  cases l with
  | cons m l =>
   cases l;obtain⟨t,rfl⟩:=r;obtain⟨E,rfl⟩:=m;exact call_range_2 (oO n k y v x q)
def D0 (wi:TI) (g:TG) (tb:TS):TS:=λD σ H=>wi σ H λJ H1=>∃ W:Nat->Nat->St->Hp->Prop,(∃ m,W 0 m σ H1)/\∀ i m σ H,W i m σ H ->
  (J.stop i H/\D.nx σ H)\/(J.go i H/\∃ N:St->Hp->Prop,(∀ σ' H',N σ' H'->∃ m',m'<m/\W (i+1) m' σ' H')/\∀ x H',J.yld i H x H'->g x σ H' λσ2 H2=>tb {D with nx:=N,ct:=N,bk:=D.nx} σ2 H2)
def js (fp:List Addr) (h:Heap):AOs:=fp.filterMap λb=>(h.get? b).map λo=>(b,o)
def dZ (a:b∈fp) (e:h.get? b=some o):(b,o)∈js fp h:=List.mem_filterMap.mpr ⟨b,a,by rw[e];rfl⟩
def mv (a:p∈js fp h):p.1∈fp/\h.get? p.1=some p.2:=by
 obtain⟨b,d,e⟩:=List.mem_filterMap.mp a;cases q:h.get? b with
 | none=>rw[q] at e;cases e
 | some o =>
  rw[q] at e;have c:=Option.some.inj e;subst c;exact⟨d,q⟩
def Inv.pinned {σ:St} (I:Inv X pins σ H s) (h:∀ b∈fp,jd X pins H b) (k:∀ b∈fp,∃ o,s.heap.get? b=some o/\∀ v,o.data≠.cell v):Inv X (pins++js fp s.heap) σ H s :=
 I.pins_of λp i=>(mAp.mp i).elim (λz=>I.pin p (List.mem_append_right _ z)) λz=>by
  obtain⟨a,e⟩:=mv z;obtain⟨j,f,g,_⟩:=h p.1 a;obtain⟨o,c,d⟩:=k p.1 a;rw[e] at c;cases c;exact⟨e,j,f,g,d⟩
def Inv.unpinned {σ:St} (I:Inv X (pins++pl) σ H s):Inv X pins σ H s:=I.pins_of λp a=>I.pin p (List.mem_append_right _ (List.mem_append_left _ a))
def cu (O:PassesOwn ?N X.A X.env X.xe) (hc:X.calm=true) (hi:PI X tg iter wi) (hg:PG X tg g) (t:PSs X body tb)
 (hs:∀ x,foldedSetIterable iter X.env x=pure x:=by intro _;rfl):PS X (.For tg iter body [] pos) (D0 wi g tb):=by
 intro a s σ H D I h;refine wpAny_For (thn (hi a s σ H _ I h) λv s1 h1=>thn h1 λitv s2 h2=>?_) hs;obtain⟨it,L,tn,J,H2,e,I2,T,Ks,f2,W,⟨m0,w0⟩,Q⟩:=h2;subst e;have l:∀ {y:Hp},(∀ b∈L,y b=none)->∀ b∈L,jd X a y b:=λhn b t=>⟨hn b t,(f2 b t).2⟩;refine codeAny_forLoop_any (λn s'=>∃ i j y,Inv X a j y s'/\tn i s'.heap/\(∀ b∈L,y b=none)/\W i n j y) ?_ m0 ⟨0,σ,H2,I2,Ks,λb t=>(f2 b t).1,w0⟩;rintro n s3 ⟨i,p,R,I3,G,P,w3⟩
 rcases Q i n p R w3 with ⟨E,qn⟩ | ⟨go,N,hN,step⟩
 · refine wpAny_passesOwn O (thn (T.done X U U U hc i a s3 p R X.xe I3 (l P) G E) λr s4 M=>?_);obtain⟨Y,I4⟩:=M;subst Y;exact wpAny_execs_nil ⟨p,R,I4,qn⟩
 · refine wpAny_passesOwn O (thn (T.item X U U U hc i a s3 p R X.xe I3 (l P) G go) λr s4 F=>?_);obtain⟨u,Y,h4⟩:=F;subst Y;refine wpAny_passesOwn O (thn h4 λ_ s5 C=>?_);obtain⟨x,H5,I5,r5,y5,Z,Kq⟩:=C;have I5':=I5.pinned (l Kq) (T.obj _ _ Z);refine wpAny_passesOwn O (thn (hg _ s5 p H5 x u _ I5' r5 (step x H5 y5)) λ_ s6 B=>?_);obtain⟨S,H6,I6,q6⟩:=B;refine wpAny_passesOwn O (thn (t _ s6 S H6 _ I6 q6) λf s7 z=>?_);have k:∀ {c:St} {q:Hp},Inv X (a++js L s5.heap) c q s7->N c q->∃ m,m<n/\∃ i j y,Inv X a j y s7/\tn i s7.heap/\(∀ b∈L,y b=none)/\W i m j y:=λ{c q} r K=>by
    obtain⟨m',hm,w7⟩:=hN c q K;refine⟨m',hm,i+1,c,q,r.unpinned,T.keep _ _ _ Z λb t o e=>(r.pin (b,o) (List.mem_append_right _ (List.mem_append_right _ (dZ t e)))).1,λb t=>?_,w7⟩;obtain⟨o,e,d⟩:=T.obj _ _ Z b t;exact (r.pin (b,o) (List.mem_append_right _ (List.mem_append_right _ (dZ t e)))).2.1
   cases f with
   | next=>obtain⟨c,q,r,K⟩:=z;exact k r K
   | cont=>obtain⟨c,q,r,K⟩:=z;exact k r K
   | brk=>obtain⟨c,q,r,z⟩:=z;exact⟨c,q,r.unpinned,z⟩
   | ret v=>obtain⟨x7,c,q,r,r7,z⟩:=z;exact⟨x7,c,q,r.unpinned,r7,z⟩
end
abbrev R2:=V->V->Hp->VK->Prop
def OpR (X:Cx) (f:Value->Value->Sem Value) (r:R2):Prop :=
  ∀ (pins:AOs) (s:Shared) (σ:St) (H:Hp) (x y:V) (v u:Value) (Q:VK),Inv X pins σ H s->bh x v->bh y u->r x y H Q ->
    wpAny ?N X.A (f v u) (EP X pins σ Q) X.xe s
def UnR (X:Cx) (f:Value->Sem Value) (r:V->Hp->VK->Prop):Prop :=
  ∀ (pins:AOs) (s:Shared) (σ:St) (H:Hp) (x:V) (v:Value) (Q:VK),Inv X pins σ H s->bh x v->r x H Q ->
    wpAny ?N X.A (f v) (EP X pins σ Q) X.xe s
def fZ (X:Cx) (f:Value) (r:List V->Hp->VK->Prop):Prop :=
  ∀ (pins:AOs) (s:Shared) (σ:St) (H:Hp) (xs:List V) (us:List Value) (Q:VK),Inv X pins σ H s->b7 xs us->r xs H Q ->
    wpAny ?N X.A (call f us) (EP X pins σ Q) X.xe s
def Hm (X:Cx) (r:V->Hp->(Bool->Hp->Prop)->Prop):Prop :=
  ∀ (pins:AOs) (s:Shared) (σ:St) (H:Hp) (x:V) (v:Value) (Q:Bool->Hp->Prop),Inv X pins σ H s->bh x v->r x H Q ->
    wpAny ?N X.A (truthy v) (TP X pins σ Q) X.xe s
def tOp (r:R2) (ta tb:TE):TE:=λσ H Q=>ta σ H λx H1=>tb σ H1 λy H2=>r x y H2 Q
def tUn (r:V->Hp->VK->Prop) (ta:TE):TE:=λσ H Q=>ta σ H λx H1=>r x H1 Q
def rI (C:Int->Int->Prop) (g:Int->Int->V):R2:=λx y H Q=>B8 x y H C g Q
def rI0 (g:Int->Int->V):R2:=λx y H Q=>yd x y H g Q
def rU (g:Int->V):V->Hp->VK->Prop:=λx H Q=>∃ i,x=.int i/\Q (g i) H
section
variable {X:Cx} {a b c:Expr} {D G tc:TE} {F:Pos}
def Cs (B:PE X a D) (r:PE X b G) {σ:St} {R:V->V->Hp->Prop} (I:Inv X pins σ H s)
 (h:D σ H λx k=>G σ k λy c=>R x y c) {Q:VSP} {f:Value->Value->Sem Value}
 (p:∀ v u j x y c,Inv X pins σ c j->bh x v->bh y u->R x y c->wpAny ?N X.A (f v u) Q X.xe j):
 wpAny ?N X.A (eval a X.env) (λv e=>wpAny ?N X.A (eval b X.env) (λu g=>wpAny ?N X.A (f v u) Q X.xe g) X.xe e) X.xe s:=by
 refine thn (B pins s σ H _ I h) λv t i=>?_;obtain⟨x,k,l,m,o⟩:=i;refine thn (r pins t σ k _ l o) λu j d=>?_;obtain⟨y,c,q,n,z⟩:=d;exact p v u j x y c q m n z
def aT (j:OpR X (binaryOp op) r) (l:PE X a D) (g:PE X b G):PE X (.BinOp a op b F) (tOp r D G):=by
 intro c s σ H Q I h;exact wpAny_BinOp (Cs l g I h λv u e x y i f k d q=>j c e σ i x y v u Q f k d q)
def iT {d:UnaryOp} {r:V->Hp->VK->Prop} (k:UnR X (unaryOp d) r) (l:PE X a D):PE X (.UnaryOp d a F) (tUn r D):=by
 intro b s σ H Q I h;refine UnaryOp_ (thn (l b s σ H _ I h) λv j c=>?_);obtain⟨x,i,e,f,g⟩:=c;exact k b j σ i x v Q e f g
def opI {f:Value->Value->Sem Value} {C:Int->Int->Prop} {g:Int->Int->Int}
 (rule:∀ (i j:Int) (t u:Tok) (s:Shared) (Q:VSP) (E:VSP),C i j->Q (.int (g i j) s.toks) {s with toks:=s.toks+1}->wpAny ?N X.A (f (.int i t) (.int j u)) Q E s) :
 OpR X f (rI C λi j=>.int (g i j)):=by
 intro pins s σ H x y v u Q I rx ry h;obtain⟨i,j,rfl,rfl,hc,q⟩:=h;obtain⟨t,rfl⟩:=rx;obtain⟨t',rfl⟩:=ry;exact rule i j t t' s _ _ hc ⟨.int (g i j),H,I.tok _,⟨_,U⟩,q⟩
def Eb {f:Value->Value->Sem Value} {g:Int->Int->Int}
 (rule:∀ (i j:Int) (t u:Tok) (s:Shared) (Q:VSP) (E:VSP),Q (.int (g i j) s.toks) {s with toks:=s.toks+1}->wpAny ?N X.A (f (.int i t) (.int j u)) Q E s) :
 OpR X f (rI0 λi j=>.int (g i j)):=by
 intro pins s σ H x y v u Q I rx ry h;obtain⟨i,j,rfl,rfl,q⟩:=h;obtain⟨t,rfl⟩:=rx;obtain⟨t',rfl⟩:=ry;exact rule i j t t' s _ _ ⟨.int (g i j),H,I.tok _,⟨_,U⟩,q⟩
def zj {g:Int->Int->Bool}
 (a:∀ (i j:Int) (t u:Tok) (s:Shared) (Q:VSP) (E:VSP),Q (.bool (g i j)) s->wpAny ?N X.A (f (.int i t) (.int j u)) Q E s):
 OpR X f (rI0 λi j=>.bl (g i j)):=by
 intro b s σ H x y v u Q I e d h;obtain⟨i,j,rfl,rfl,q⟩:=h;obtain⟨t,rfl⟩:=e;obtain⟨c,rfl⟩:=d;exact a i j t c s _ _ ⟨.bl (g i j),H,I,U,q⟩
def Hr (i j:Int):Prop:=0<j/\j<1073741824
def Hq (i j:Int):Prop:=0<=j/\j<=1000000/\i.natAbs<2 ^ 64
def CH (i j:Int):Prop:=(-(2 ^ 64)<i/\i<2 ^ 64)\/(-(2 ^ 64)<j/\j<2 ^ 64)
def CH.ok (h:CH i j):IntMulOk i j:=by
 rcases h with ⟨b,a⟩ | ⟨b,a⟩
 · exact .of_left (intBits_le_64 b a)
 · exact .of_right (intBits_le_64 b a)
def bY:OpR X (binaryOp .Add) (rI0 λi j=>.int (i+j)):=Eb λ_ _ _ _ _ _ _ q=>add_int q
def dX:OpR X (binaryOp .Sub) (rI0 λi j=>.int (i-j)):=Eb λ_ _ _ _ _ _ _ q=>sub_int q
def nG:OpR X (binaryOp .Mult) (rI CH λi j=>.int (i*j)):=opI λ_ _ _ _ _ _ _ a q=>mul_int q a.ok
def nH:OpR X (binaryOp .FloorDiv) (rI Hr λi j=>.int (i / j)):=opI λi j _ _ _ _ _ a q=>by
 have c:=a.1;have b:=a.2;exact floordiv_int (by lia) (by grind) (.inl (PyProof.noPylong_small (by lia)))
def gu:OpR X (binaryOp .Mod) (rI (λ_ j=>0<j) λi j=>.int (i % j)):=opI λi j _ _ _ _ _ a q=>by
 have b:=a;exact mod_int' (by lia) (by grind)
def wE:OpR X (binaryOp .Pow) (rI Hq λi j=>.int (i ^ j.toNat)):=opI λ_ _ _ _ _ _ _ a q=>pow_int_small a.1 a.2.1 a.2.2 q
def unI {f:Value->Sem Value} {g:Int->Int}
 (rule:∀ (i:Int) (t:Tok) (s:Shared) (Q:VSP) (E:VSP),Q (.int (g i) s.toks) {s with toks:=s.toks+1}->wpAny ?N X.A (f (.int i t)) Q E s) :
 UnR X f (rU λi=>.int (g i)):=by
 intro pins s σ H x v Q I rx h;obtain⟨i,rfl,q⟩:=h;obtain⟨t,rfl⟩:=rx;exact rule i t s _ _ ⟨.int (g i),H,I.tok _,⟨_,U⟩,q⟩
def g9:UnR X (unaryOp .USub) (rU λi=>.int (-i)):=unI λ_ _ _ _ _ q=>neg_int q
end
def yP:V->V->Bool
  | .non,.non=>true | .non,.int _=>true | .int _,.non=>true | .non,.bl _=>true | .bl _,.non=>true | .non,.str _=>true | .str _,.non=>true
  | .int _,.int _=>true | .bl _,.bl _=>true | .str _,.str _=>true | .byt _,.byt _=>true
  | .int _,.str _=>true | .str _,.int _=>true | .bl _,.str _=>true | .str _,.bl _=>true
  | _,_=>false
def rEq:R2:=λx y H Q=>yP x y=true/\Q (.bl (decide (x=y))) H
def rNe:R2:=λx y H Q=>yP x y=true/\Q (.bl (!decide (x=y))) H
def sW:decide (V.int i=V.int j)=(i==j):=by
 rw[Bool.eq_iff_iff];simp
def xJ:decide (V.bl i=V.bl j)=(i==j):=by
 rw[Bool.eq_iff_iff];simp
def sV:decide (V.str i=V.str j)=(i==j):=by
 rw[Bool.eq_iff_iff];simp
def sX:decide (V.byt i=V.byt j)=(i.toList==j.toList):=by
 rw[Bool.eq_iff_iff];cases i;cases j;simp
section
variable {X:Cx} {a b c:Expr} {ta tb tc:TE} {pos:Pos}
def bv {σ:St} (I:Inv X pins σ H s) (q:Q (.bl k) H) (e:k=k'):EP X pins σ Q (.bool k') s:=by
 subst e;exact⟨.bl k,H,I,U,q⟩
def aZ:OpR X (compareOp .Eq) rEq:=by
 intro e s o H x y v u Q I d a h;obtain⟨c,q⟩:=h;cases x with
 | non =>
  cases d;cases y with
  | non=>cases a;exact PySem.EqNone.eq_none_none (bv I q ?B)
  | bl j=>cases a;exact PySem.EqNone.eq_none_bool (bv I q ?B)
  | int j=>obtain⟨b,rfl⟩:=a;exact PySem.EqNone.eq_none_int (bv I q ?B)
  | str j=>obtain⟨b,rfl⟩:=a;exact PySem.EqNone.eq_none_str (bv I q ?B)
  | _=>exact absurd (show false=true from c) Bool.false_ne_true
 | bl i =>
  cases d;cases y with
  | non=>cases a;exact PySem.EqNone.eq_bool_none (bv I q ?B)
  | bl j=>cases a;exact eq_bool (bv I q xJ)
  | str j=>obtain⟨b,rfl⟩:=a;exact PySem.EqMixed.eq_bool_str (bv I q ?B)
  | _=>exact absurd (show false=true from c) Bool.false_ne_true
 | int i =>
  obtain⟨t,rfl⟩:=d;cases y with
  | non=>cases a;exact PySem.EqNone.eq_int_none (bv I q ?B)
  | int j=>obtain⟨b,rfl⟩:=a;exact eq_int (bv I q sW)
  | str j=>obtain⟨b,rfl⟩:=a;exact PySem.EqMixed.eq_int_str (bv I q ?B)
  | _=>exact absurd (show false=true from c) Bool.false_ne_true
 | str i =>
  obtain⟨t,rfl⟩:=d;cases y with
  | non=>cases a;exact PySem.EqNone.eq_str_none (bv I q ?B)
  | bl j=>cases a;exact PySem.EqMixed.eq_str_bool (bv I q ?B)
  | int j=>obtain⟨b,rfl⟩:=a;exact PySem.EqMixed.eq_str_int (bv I q ?B)
  | str j=>obtain⟨b,rfl⟩:=a;exact eq_str (bv I q sV)
  | _=>exact absurd (show false=true from c) Bool.false_ne_true
 | byt i =>
  obtain⟨t,rfl⟩:=d;cases y with
  | byt j=>obtain⟨b,rfl⟩:=a;exact PySem.W.eq_bytes (bv I q sX)
  | _=>exact absurd (show false=true from c) Bool.false_ne_true
 | _=>cases y <;> exact absurd (show false=true from c) Bool.false_ne_true
def fz:OpR X (compareOp .NotEq) rNe:=by
 intro e s o H x y v u Q I d a h;obtain⟨c,q⟩:=h;cases x with
 | non =>
  cases d;cases y with
  | non=>cases a;exact PySem.EqNone.ne_none_none (bv I q ?B)
  | bl j=>cases a;exact PySem.EqNone.ne_none_bool (bv I q ?B)
  | int j=>obtain⟨b,rfl⟩:=a;exact PySem.EqNone.ne_none_int (bv I q ?B)
  | str j=>obtain⟨b,rfl⟩:=a;exact PySem.EqNone.ne_none_str (bv I q ?B)
  | _=>exact absurd (show false=true from c) Bool.false_ne_true
 | bl i =>
  cases d;cases y with
  | non=>cases a;exact PySem.EqNone.ne_bool_none (bv I q ?B)
  | bl j=>cases a;exact ne_bool (bv I q (congrArg not xJ))
  | str j=>obtain⟨b,rfl⟩:=a;exact PySem.EqMixed.ne_bool_str (bv I q ?B)
  | _=>exact absurd (show false=true from c) Bool.false_ne_true
 | int i =>
  obtain⟨t,rfl⟩:=d;cases y with
  | non=>cases a;exact PySem.EqNone.ne_int_none (bv I q ?B)
  | int j=>obtain⟨b,rfl⟩:=a;exact ne_int (bv I q (congrArg not sW))
  | str j=>obtain⟨b,rfl⟩:=a;exact PySem.EqMixed.ne_int_str (bv I q ?B)
  | _=>exact absurd (show false=true from c) Bool.false_ne_true
 | str i =>
  obtain⟨t,rfl⟩:=d;cases y with
  | non=>cases a;exact PySem.EqNone.ne_str_none (bv I q ?B)
  | bl j=>cases a;exact PySem.EqMixed.ne_str_bool (bv I q ?B)
  | int j=>obtain⟨b,rfl⟩:=a;exact PySem.EqMixed.ne_str_int (bv I q ?B)
  | str j=>obtain⟨b,rfl⟩:=a;exact ne_str (bv I q (congrArg not sV))
  | _=>exact absurd (show false=true from c) Bool.false_ne_true
 | byt i =>
  obtain⟨t,rfl⟩:=d;cases y with
  | byt j=>obtain⟨b,rfl⟩:=a;exact PySem.W.ne_bytes (bv I q (congrArg not sX))
  | _=>exact absurd (show false=true from c) Bool.false_ne_true
 | _=>cases y <;> exact absurd (show false=true from c) Bool.false_ne_true
def gN:OpR X (compareOp .Lt) (rI0 λi j=>.bl (decide (i<j))):=zj λ_ _ _ _ _ _ _ q=>lt_int q
def fV:OpR X (compareOp .LtE) (rI0 λi j=>.bl (decide (i<=j))):=zj λ_ _ _ _ _ _ _ q=>le_int q
def ig:OpR X (compareOp .Gt) (rI0 λi j=>.bl (decide (j<i))):=zj λ_ _ _ _ _ _ _ q=>gt_int q
def Ea:OpR X (compareOp .GtE) (rI0 λi j=>.bl (decide (j<=i))):=zj λ_ _ _ _ _ _ _ q=>ge_int q
def BK:OpR X (compareOp .Is) (λx y H Q=>y=.non/\Q (.bl (decide (x=.non))) H):=by
 intro a s σ H x y v u Q I b c h;obtain⟨rfl,q⟩:=h;cases c;refine is_none_gen (bv I q ?_);cases x <;> first
  | (cases b;rfl)
  | (obtain⟨t,rfl⟩:=b;rfl)
def pQ (b:Expr) (h:op≠.In:=by decide) (d:op≠.NotIn:=by decide):behindInMarks op b=false:=by
 have e:(op==CmpOp.In)=false:=by cases op <;> first | rfl | exact absurd rfl h
 have f:(op==CmpOp.NotIn)=false:=by cases op <;> first | rfl | exact absurd rfl d
 cases b <;> simp[behindInMarks,e,f]
def bL (d:OpR X (compareOp op) r) (i:PE X a ta) (f:PE X b tb) (e:behindInMarks op b=false):PE X (.Compare a [op] [b] pos) (tOp r ta tb):=by
 intro c s σ H Q I h;exact wpAny_Compare1 (Cs i f I h λv u g x y j k m l q=>d c g σ j x y v u Q k m l q) e
def dA (t:TE):TT:=λσ H Q=>t σ H λx H'=>BlR x H' Q
def pP (q:OpR X (compareOp op) r) (A:PE X a ta) (i:PE X b tb) (t:behindInMarks op b=false):PT X (.Compare a [op] [b] pos) (dA (tOp r ta tb)):=by
 intro c s σ H Q I h;refine wpAny_isTrue_Compare1 (thn (A c s σ H _ I h) λv G d=>?_) t;obtain⟨x,m,E,C,B⟩:=d;refine thn (i c G σ m _ E B) λu w f=>?_;obtain⟨y,F,j,l,J⟩:=f;refine thn (q c w σ F x y v u _ j C l J) λc K g=>?_;obtain⟨z,D,n,p,k,e,o⟩:=g;subst e;cases p;exact wpAny_truthy_bool ⟨D,n,o⟩
def ng (r r':R2) (ta tb tc:TE):TE:=λσ H Q=>ta σ H λx H1=>tb σ H1 λy H2=>r x y H2 λz H3=>∃ k,z=.bl k /\
  (if k=true then tc σ H3 λw' H4=>r' y w' H4 Q else Q (.bl false) H3)
def gM (D:OpR X (compareOp op) r) (M:OpR X (compareOp op') r') (G:PE X a ta) (p:PE X b tb) (N:PE X c tc)
 (E:lastMarks [op,op'] [b,c]=false:=by with_unfolding_all rfl):PE X (.Compare a [op,op'] [b,c] pos) (ng r r' ta tb tc):=by
 intro d s σ H Q I h;refine Compare_chain (thn (G d s σ H _ I h) λv T j=>?_) E;obtain⟨x,w,R,L,K⟩:=j;refine chain_link (thn (p d T σ w _ R K) λu F i=>?_);obtain⟨y,S,q,l,Y⟩:=i;refine thn (D d F σ S x y v u _ q L l Y) λd C f=>?_;obtain⟨z,o,m,B,k,e,n⟩:=f;subst e;cases B;refine wpAny_truthy_bool ?_;cases k with
 | false=>exact ite_ff ⟨.bl false,o,m,U,n⟩
 | true=>
  refine ite_tt (chain_last (thn (N d C σ o _ m n) λw' P g=>?_))
  obtain⟨W,O,A,t,J⟩:=g;exact M d P σ O y W u w' Q A l t J
def oQ (L:OpR X (compareOp op) r) (T:OpR X (compareOp op') r') (O:PE X a ta) (q:PE X b tb) (W:PE X c tc)
 (M:lastMarks [op,op'] [b,c]=false:=by with_unfolding_all rfl):PT X (.Compare a [op,op'] [b,c] pos) (dA (ng r r' ta tb tc)):=by
 intro d s σ H Q I h;refine isTrue_chain (thn (O d s σ H _ I h) λv s1 f=>?_) M;obtain⟨x,B,I1,r1,S⟩:=f;refine test_link (thn (q d s1 σ B _ I1 S) λu N i=>?_);obtain⟨y,H2,t,m,q2⟩:=i;refine thn (L d N σ H2 x y v u _ t r1 m q2) λd J l=>?_;obtain⟨z,p,n,F,k,e,o⟩:=l;subst e;cases F;refine wpAny_truthy_bool ?_;cases k with
 | false =>
  obtain⟨k',Y,A⟩:=o;cases Y;exact ite_ff ⟨p,n,A⟩
 | true =>
  refine ite_tt (test_last (thn (W d J σ p _ n o) λw' Z j=>?_));obtain⟨R,H4,D,w,P⟩:=j;refine thn (T d Z σ H4 y R u w' _ D m w P) λd' s5 g=>?_;obtain⟨z2,G,I5,K,k2,E,C⟩:=g;subst E;cases K;exact wpAny_truthy_bool ⟨G,I5,C⟩
def Fr (K:Fg) (x:V) (H:Hp) (k:Bool):Prop :=
  match x with
  | .non=>k=false
  | .bl b=>k=b
  | .int i=>k=(i != 0)
  | .str y=>y.length<=sizeLine/\k=((y.length:Int) != 0)
  | .byt y=>y.size<=sizeLine/\k=((y.size:Int) != 0)
  | .ref p=>(∃ xs,SqL K H p xs/\k=!xs.isEmpty)\/(∃ xs,SqT K H p xs/\k=!xs.isEmpty)\/∃ kvs,H p=some (.dK kvs)/\k=!kvs.isEmpty
  | _=>False
def qV {a:List (κ×Value)} (r:KV kvs a):(!a.isEmpty)=!kvs.isEmpty:=by
 cases r <;> rfl
def lu (r:b7 xs its):(!its.toArray.isEmpty)=!xs.isEmpty:=by
 cases r <;> simp
def jz:(sizeLine:Nat)<2 ^ 63:=by rw[sizeLine_eq];decide
def Bg:Hm X (λx H Q=>∃ k,Fr X.K x H k/\Q k H):=by
 intro z s L H x v Q I j h;obtain⟨k,e,q⟩:=h;have M:=jz;have N:sizeLine=16777216:=sizeLine_eq;cases x with
 | non =>
  cases j;have a:k=false:=e;subst a;exact truthy_none ⟨H,I,q⟩
 | bl b =>
  cases j;have a:k=b:=e;subst a;exact wpAny_truthy_bool ⟨H,I,q⟩
 | int i =>
  obtain⟨t,rfl⟩:=j;have a:k=(i != 0):=e;subst a;exact PySem.P.truthy_int ⟨H,I,q⟩
 | str y =>
  obtain⟨t,rfl⟩:=j;obtain⟨E,a⟩:y.length<=sizeLine/\k=((y.length:Int) != 0):=e;subst a;exact PySem.P.truthy_str (by lia) ⟨H,I.tok _,q⟩
 | byt y =>
  obtain⟨t,rfl⟩:=j;obtain⟨E,a⟩:y.size<=sizeLine/\k=((y.size:Int) != 0):=e;subst a;exact PySem.W.truthy_bytes (by lia) ⟨H,I.tok _,q⟩
 | ref p =>
  cases j;have a:(∃ g,SqL X.K H p g/\k=!g.isEmpty)\/(∃ g,SqT X.K H p g/\k=!g.isEmpty)\/∃ c,H p=some (.dK c)/\k=!c.isEmpty:=e
  rcases a with ⟨g,l,a⟩ | ⟨g,l,a⟩ | ⟨c,l,a⟩
  · subst a;obtain⟨o,r,u,A⟩:=I.list l;have f:=r.length;exact wpAny_truthy_list u.isList (by simp only[List.size_toArray];lia) ⟨H,I.tok _,by rw[lu r];exact q⟩
  · subst a;obtain⟨o,r,u,A⟩:=I.tuple l;have f:=r.length;exact truthy_tuple u (by simp only[List.size_toArray];lia) ⟨H,I.tok _,by rw[lu r];exact q⟩
  · subst a;obtain⟨A,J,n,r,m⟩:c.length<=sizeLine/\(p==sysModules)=false/\∃ n,KV c n/\s.heap.DictOf (aI X.prog X.w) p n:=I.hok p _ l;have f:c.length=n.length:=Paired.length r;exact wpAny_truthy_dict J m (by lia) ⟨H,I.tok _,by rw[qV r];exact q⟩
 | _=>exact (show False from e).elim
def gK (ha:PE X a ta) (he:∀ whole,isTrue a X.env whole=(do let v <- whole;standAt a.pos;holding [v] (truthy v))) :
 PT X a (λσ H Q=>ta σ H λx H'=>∃ k,Fr X.K x H' k/\Q k H'):=by
 intro pins s σ H Q I h;refine isTrue_plain (thn (ha pins s σ H _ I h) λv s1 zy56=>?_) (he _);obtain⟨x,H1,I1,r1,q1⟩:=zy56;exact Bg pins s1 σ H1 x v Q I1 r1 q1
def qI:OpR X (binaryOp .Add) (λx y H Q=>∃ i j,x=.str i/\y=.str j/\i.length+j.length<=sizeLine/\Q (.str (i++j)) H):=by
 intro a s σ H x y v u Q I d c h;obtain⟨i,j,rfl,rfl,b,q⟩:=h;obtain⟨t,rfl⟩:=d;obtain⟨e,rfl⟩:=c;exact add_str (λt' tk=>⟨.str (i++j),H,I.tok _,⟨_,U⟩,q⟩) b
def iN (r:b7 [x] us):∃ u,us=[u]/\bh x u:=by
 cases r with
 | cons a b=>cases b;exact⟨_,U,a⟩
def uP:fZ X (.type "int") (λxs H Q=>(∃ i,xs=[.int i]/\Q (.int i) H)\/∃ k,xs=[.bl k]/\Q (.int (if k then 1 else 0)) H):=by
 intro a s σ H xs d Q I r h
 rcases h with ⟨i,rfl,q⟩ | ⟨k,rfl,q⟩
 · obtain⟨u,rfl,t,rfl⟩:=iN r;exact call_int_int ⟨.int i,H,I,⟨_,U⟩,q⟩
 · obtain⟨u,rfl,c⟩:=iN r;cases c;exact call_int_bool ⟨.int (if k then 1 else 0),H,I.tok _,⟨_,U⟩,q⟩
end
structure Cz (h:Heap) (x dx C:Addr) (mA:SOV):Prop where
  obj:h.get? x=some (PySem.W.instObj C dx)
  ns:h.Ns1 dx mA
  ne:dx≠x
def um {h:Heap} {f:SOV} (n:h.Ns1 dx f):∃ g,h.get? dx=some g/\∀ name,PySem.W.lookIn name g=some (f name):=by
 obtain⟨o,i,s,l,j,p,_,m⟩:=n;refine⟨o,l,λname=>?_⟩;have e:=m name;unfold nsFind findBy at e;rw[<- Array.find?_toList] at e;unfold PySem.W.lookIn;rw[j];dsimp only;split
 · grind
 · rename_i q
   rw[q] at e;have a:i.toList.any (·.refKey)=false:=by
    rw[List.any_eq_false];intro y k;obtain⟨z,t,c⟩:=p y (Array.mem_toList_iff.mp k);simp[DictEntry.refKey,c]
   have r:¬ i.toList.any (·.refKey)=true:=by rw[a];exact Bool.false_ne_true
   rw[if_neg r];exact congrArg some e
def Cz.look (I:Cz h x dx C mA):∃ b,PySem.W.InstAt h x (PySem.W.instObj C dx) C (some b)/\∀ a,PySem.W.lookIn a b=some (mA a) :=
 let ⟨b,c,d⟩:=um I.ns
 ⟨b,⟨I.obj,U,U,c⟩,d⟩
def jc.some_of (r:jc (some v) o):∃ u,o=some u/\bh v u:=by
 cases o with
 | none=>exact (show False from r).elim
 | some u=>exact⟨u,U,r⟩
section
variable {P:Program} {w:World} {H H':Hp} {h h':Heap} {a C i:Addr} {fs fs':List (Str×V)}
def zE (c:HOk P w H h) (e:H a=some (.ins C i fs)):∃ b,Cz h a i C b/\(∀ f,jc (fs.lookup f) (b f))/\PySem.Within b (fs.map (·.1))/\fs.length<=1000/\H i=some (.own a):=by
 obtain⟨d,z,ne,g,b,n,r,q⟩:=(show bV P w H h a (.ins C i fs) from c a _ e);exact⟨b,⟨g,n,ne⟩,r,q,z,d⟩
end
structure Cls (K:Fg) (C:Addr):Prop where
  pg:PySem.W.plainGet K C Str.empty=true
  hd:PySem.W.hasDictIn K C=true
  po:PySem.W.plainOver K C=true
  sa:PySem.W.findIn K (.ref C) "__setattr__"=some (some (.builtin "object.__setattr__"))
def Cls.get {K:Fg} {C:Addr} (c:Cls K C) (f:Str):PySem.W.plainGet K C f=true:=c.pg
section
variable {X:Cx} {pins:AOs} {σ:St} {H:Hp} {s:Shared} {A:Around} {E:VSP} {Q:VSP} {c:Value} {b:Bool}
inductive kg (K:Fg) (H:Hp):V->Value->Prop where
  | non:kg K H .non (.type "NoneType")
  | bl (x:Bool):kg K H (.bl x) (.type "bool")
  | int (i:Int):kg K H (.int i) (.type "int")
  | str (x:Str):kg K H (.str x) (.type "str")
  | flt (x:UInt64):kg K H (.flt x) (.type "float")
  | lst {a:Addr} {xs:List V} (e:H a=some (.lst xs)):kg K H (.ref a) (.type "list")
  | frz {a:Addr} {o:Obj} {xs:List V} (e:H a=some (.frz o (.lst xs))):kg K H (.ref a) (.type "list")
  | tup {a:Addr} {xs:List V} (e:H a=some (.tup xs)):kg K H (.ref a) (.type "tuple")
  | dK {a:Addr} {kvs:List (Key×V)} (e:H a=some (.dK kvs)):kg K H (.ref a) (.type "dict")
  | dT {a:Addr} {kvs:List (List Key×V)} (e:H a=some (.dT kvs)):kg K H (.ref a) (.type "dict")
  | ins {a C dx:Addr} {fs:List (Str×V)} (e:H a=some (.ins C dx fs)) (cl:Cls K C) (ha:PySem.W.findIn K (.ref C) "__class__"=some (some (.builtin "object.__class__")))
      (hn:PySem.W.specialIn K (.builtin "object.__class__") "__get__"=some (some (.builtin "getset_descriptor.__get__"))) (htk:PySem.W.takesIn K (.builtin "object.__class__")=some true)
      (hm:PySem.W.mroIn K C (.type "object")=some true):kg K H (.ref a) (.ref C)
def fk (I:Inv X pins σ H s) (d:bh x u) (m:kg X.K H x t) (e:PySem.W.kitOne X.K t c=some b) (h:∀ R,Q (.bool b) {s with toks:=R}):
 wpAny ?N A (call (.builtin "isinstance") [u,c]) Q E s:=by
 cases m with
 | non=>cases (show u=Value.none from d);exact PySem.W.kia_one PySem.W.kitx_none I.kIn True.intro e (λz=>nomatch z) h
 | bl y=>cases (show u=Value.bool y from d);exact PySem.W.kia_one PySem.W.kitx_bool I.kIn True.intro e (λz=>nomatch z) h
 | int i=>obtain⟨t,q⟩:=(show ∃ t,u=Value.int i t from d);cases q;exact PySem.W.kia_one PySem.W.kitx_int I.kIn True.intro e (λz=>nomatch z) h
 | str y=>obtain⟨t,q⟩:=(show ∃ t,u=Value.str y t from d);cases q;exact PySem.W.kia_one PySem.W.kitx_str I.kIn True.intro e (λz=>nomatch z) h
 | flt y=>obtain⟨t,q⟩:=(show ∃ t,u=Value.float y t from d);cases q;exact PySem.W.kia_one PySem.W.kitx_float I.kIn True.intro e (λz=>nomatch z) h
 | @lst a g F =>
  cases (show u=Value.ref a from d);obtain⟨_,_,n,_,f⟩:=(show bV X.prog X.w H s.heap a (.lst g) from I.hok a _ F);exact PySem.W.kia_one PySem.W.kitx_list I.kIn ⟨_,f,U⟩ e (λz=>nomatch z) h
 | @frz a ob g F =>
  cases (show u=Value.ref a from d);obtain⟨_,_,_,n,_,f⟩:=(show bV X.prog X.w H s.heap a (.frz ob (.lst g)) from I.hok a _ F);exact PySem.W.kia_one PySem.W.kitx_list I.kIn ⟨_,f,U⟩ e (λz=>nomatch z) h
 | @tup a g F =>
  cases (show u=Value.ref a from d);obtain⟨_,_,_,p⟩:=(show bV X.prog X.w H s.heap a (.tup g) from I.hok a _ F);obtain⟨o,f,j,_⟩:=p;exact PySem.W.kia_one PySem.W.kitx_tuple I.kIn ⟨o,f,j⟩ e (λz=>nomatch z) h
 | @dK a G F =>
  cases (show u=Value.ref a from d);obtain⟨_,_,D,_,p⟩:=(show bV X.prog X.w H s.heap a (.dK G) from I.hok a _ F);obtain⟨o,r,l,f,j,_⟩:=p;exact PySem.W.kia_one PySem.W.kitx_dict I.kIn ⟨o,f,j.1⟩ e (λz=>nomatch z) h
 | @dT a G F =>
  cases (show u=Value.ref a from d);obtain⟨_,_,g,_,o,r,l,f,j,_⟩:=(show bV X.prog X.w H s.heap a (.dT G) from I.hok a _ F);exact PySem.W.kia_one PySem.W.kitx_dict I.kIn ⟨o,f,j.1⟩ e (λz=>nomatch z) h
 | @ins a C dx fs F P ha hn L hm =>
  cases (show u=Value.ref a from d);obtain⟨v,O,_⟩:=zE I.hok F;obtain⟨B,J,_⟩:=O.look;exact PySem.W.kia_one (PySem.W.kitx_own (P.get _) P.hd ha hn L hm) I.kIn J e (λz=>nomatch z) h
end
structure fH (k:Nat) (A:Around):Prop where
  hd:A.handled=none
  dp:A.depth+k+5<recursionLimit
  un:A.units+3*k+200<cLine
  gd:A.guards=some []
def fH.mono (r:fH k A) (h:j<=k):fH j A:=⟨r.hd,by have:=r.dp;lia,by have:=r.un;lia,r.gd⟩
def fH.deeper (r:fH (k+1) A) (env:Env):fH k (A.deeper env) :=
 ⟨r.hd,by have:=r.dp;show A.depth+1+k+5<_;lia,by have:=r.un;show A.units+3+3*k+200<_;lia,r.gd⟩
def fH.depth (r:fH k A):A.depth<recursionLimit:=by have:=r.dp;lia
def fH.units (r:fH k A):A.units+64<cLine:=by have:=r.un;lia
def lJ:TA:=λ_ H Q=>Q [] H
def gE (ta:TE) (tr:TA):TA:=λσ H Q=>ta σ H λx H1=>tr σ H1 λxs H2=>Q (x::xs) H2
section
variable {X:Cx} {e:Expr} {w:List Expr} {te:TE} {t:TA} {y:Pos}
def pC:PA X [] lJ:=λ_ _ _ _ H Q I h=>Calls.spliced_nil ⟨[],H,I,.nil,h⟩
def pA (l:PE X e te) (k:PA X w t) (p:starEach (e::w) X.env=?U::starEach w X.env:=by rfl):PA X (e::w) (gE te t):=by
 intro b a s σ H Q I h;rw[p];show wpAny _ _ (spliced (?U::backTo b (starEach w X.env))) _ _ s;refine Calls.spliced_cons (thn (l a s σ H _ I h) λu r d=>?_);obtain⟨x,i,o,n,m⟩:=d;refine thn (k b a r σ i _ o m) λus v c=>?_;obtain⟨j,q,f,g,u⟩:=c;exact⟨x::j,q,f,.cons n g,u⟩
def yC (t:TA):TE:=λσ H Q=>t σ H λxs H1=>xs.length<=sizeLine/\∀ p,H1 p=none->Q (.ref p) (upd H1 p (.tup xs))
def vn (t:TA):TE:=λσ H Q=>t σ H λxs H1=>xs.length<=sizeLine/\∀ p,H1 p=none->Q (.ref p) (upd H1 p (.lst xs))
def aN {x1} (h:PA X w t):PE X (.Tuple w x1 y) (yC t):=by
 intro a s σ H Q I f;refine wpAny_Tuple_spliced (thn (h y a s σ H _ I f) λus c ⟨g,d,b,r,z,q⟩=>⟨by rw[<- r.length];exact z,?_⟩);have i:=b.hok.fresh ?M;refine⟨.ref c.heap.objs.size,upd d c.heap.objs.size (.tup g),b.laid (λb u e=>hpS _ e) ?M ?_,U,q _ i⟩;exact⟨z,us,r,⟨_,Heap.get?_push_size _ U,U,_,U⟩⟩
def bb (h:PA X w t):PE X (.List w y) (vn t):=by
 intro a s σ H Q I f;refine wpAny_List_spliced (thn (h y a s σ H _ I f) λus c ⟨g,d,b,r,z,q⟩=>⟨by rw[<- r.length];exact z,?_⟩);have i:=b.hok.fresh ?M;refine⟨.ref c.heap.objs.size,upd d c.heap.objs.size (.lst g),b.laid (λb u e=>hpS _ e) ?M ?_,U,q _ i⟩;exact⟨z,us,0,r,Heap.get?_push_size _ U⟩
end
abbrev Sp:=List V->Hp->VK->XK->Prop
abbrev CXT:=List Env->Hp->Shared->XK->Value->Shared->Prop
structure Ab (P:Program) (w:World) (K:Fg) (mg:SOV) (base:Heap) (A:Around) (outer:List Env) (s:Shared) (H:Hp):Prop where
  frames:A.frames=some outer
  mod:Mod K mg base
  bs:∀ b o,base.get? b=some o->s.heap.get? b=some o/\H b=none
  bsz:base.objs.size<=s.heap.objs.size
  funs:s.heap.FunFrames base outer
  frf:∀ b∈frs outer,H b=none
  hok:HOk P w H s.heap
  bare:AllBare s.gens
def CE (outer:List Env) (P:Program) (w:World) (H:Hp) (s:Shared) (Q:VK) (u:Value) (s':Shared):Prop :=
  ∃ v H',s'.os=s.os/\AllBare s'.gens/\Un (frs outer) [] H H' s.heap s'.heap/\HOk P w H' s'.heap/\bh v u/\Q v H'
def CR (CX:CXT) (outer:List Env) (P:Program) (w:World) (H:Hp) (s:Shared) (Q:VK) (E:XK) (r:Result) (s':Shared):Prop :=
  match r with
  | .ok (.ret u)=>CE outer P w H s Q u s'
  | .ok _=>False
  | .error e=>CX outer H s E e s'
structure ib (P:Program) (w:World) (K:Fg) (mg:SOV) (base:Heap) (CX:CXT) (k:Nat) (f:Addr) (fd:FuncData) (ps:List Str) (sp:Sp):Prop where
  len:∀ vs H Q E,sp vs H Q E->vs.length=ps.length
  run:∀ (A:Around) (outer:List Env) (s:Shared) (H:Hp) (args:Args) (us:List Value) (vs:List V) (Q:VK) (E:XK),fH k A->Ab P w K mg base A outer s H->BindsTo s fd args (ps.zip us)->b7 vs us->sp vs H Q E ->
    codeAny (model P w) A (.call (.ref f) args) (CR CX outer P w H s Q E) s
section
variable {X:Cx} {j:AOs} {k:St} {H:Hp} {s s':Shared}
def Inv.env0 (I:Inv X j k H s):Ab X.prog X.w X.K X.mg X.base X.A X.stack s H :=
 ⟨I.ok.frames,I.ok.mod,I.bs,Nat.le_trans I.ok.bsz I.sz,I.stack,I.stkFree,I.hok,I.bare⟩
def Inv.after (I:Inv X j k H s) (h:CE X.stack X.prog X.w H s Q u s'):EP X j k Q u s':=by
 obtain⟨v,e,f,a,un,b,r,q⟩:=h;obtain⟨i,g,d,t,c⟩:=s';obtain rfl:c=s.os:=f;exact⟨v,e,I.call un b a (λb z=>absurd z ?B),r,q⟩
end
def vt (sp:Sp) (dvs:List V) (E:XK) (t:TA):TE:=λσ H Q=>t σ H λvs H1=>sp (vs++dvs) H1 Q E
def mT (K:Fg) (fd:FuncData) (ps:List Str) (ds:List Value):Prop :=
  ∀ (s:Shared) (us:List Value),K.In s.heap->(us++ds).length=ps.length->BindsTo s fd ⟨us,[]⟩ (ps.zip (us++ds))
def mT.all {K:Fg} (h:∀ a:List Value,a.length=ps.length->bindArgs fd ⟨a,[]⟩=pure (ps.zip a)):mT K fd ps []:=λs a _ b=>by
 rw[List.append_nil] at b ⊢;exact .of_eq (h a b)
def rn (CX:CXT) (X:Cx) (E:XK):Prop:=∀ (pins:AOs) (σ:St) (H:Hp) (s:Shared) (e:Value) (s':Shared),Inv X pins σ H s->CX X.stack H s E e s'->X.xe e s'
section
variable {X:Cx} {G:CXT} {k:Nat} {f C:Addr} {J:FuncData} {ps:List Str} {L:Sp} {z:List V} {ds:List Value} {E:XK} {x m:Str} {p B HR:Pos} {e o:Expr} {D:List Expr} {ta:TE} {t:TA}
def Bx {σ:St} (F:ib X.prog X.w X.K X.mg X.base G k f J ps L) (g:fH k X.A) (j:mT X.K J ps ds) (d:b7 z ds) (i:rn G X E)
 (I:Inv X pins σ H s) (r:b7 vs a) (h:L (vs++z) H Q E):wpAny ?N X.A (call (.ref f) a) (EP X pins σ Q) X.xe s:=by
 have c:=r.append d;have m:(a++ds).length=ps.length:=by rw[<- c.length];exact F.len _ _ _ _ h
 refine wpAny_call (codeAny_mono (F.run X.A X.stack s H ⟨a,[]⟩ (a++ds) (vs++z) Q E g I.env0 (j s a I.kIn m) c h) λr l b=>?_);cases r with
 | error e=>exact i pins σ H s e l I b
 | ok n =>
  cases n with
  | ret u=>exact I.after b
  | _=>exact False.elim b
def ze (F:ib X.prog X.w X.K X.mg X.base G k f J ps L) (o:fH k X.A) (d:Gl X x) (j:X.mg x=some (.ref f)) (n:PySem.W.keepIn X.K (.ref f)=true) (l:mT X.K J ps ds) (g:b7 z ds) (i:rn G X E)
 (m:PA X (e::D) t) (hdb:(x==("__debug__":Str))=false:=by decide) (he:starEach (e::D) X.env=?U::starEach D X.env:=by rfl) (hpl:(backTo B (starEach D X.env)).any (·.1)=false:=by rfl) :
 PE X (.Call (.Name x p) (e::D) [] B) (vt L z E t):=by
 intro a s σ H Q I h;refine wpAny_Call_Name_kw (sD I d j ?_ hdb);refine PySem.W.callWith_K I.ok.mod.kin n (thn (m B a s σ H _ I h) λus v b=>?_) he hpl;obtain⟨y,u,c,r,q⟩:=b;refine⟨c.kIn,?_⟩;exact Bx F o l g i c r q
end
structure aM (N P:List Str) (sc:Scope):Prop where
  kind:sc.kind=.function
  co:sc.isCoroutine=false
  gen:sc.isGenerator=false
  nd:N.Nodup
  pre:N.take P.length=P
  par:∀ x∈P,sc.names.lookup x=some .local\/sc.names.lookup x=some .cell
  nofree:∀ y∈sc.names,y.2≠.free
def fsM {N P:List Str} {sc:Scope} (a:sc.kind=.function:=by rfl) (b:sc.isCoroutine=false:=by rfl) (c:sc.isGenerator=false:=by rfl) (d:N.Nodup:=by left) (e:N.take P.length=P:=by rfl) (f:∀ x∈P,sc.names.lookup x=some .local\/sc.names.lookup x=some .cell:=by left) (g:∀ y∈sc.names,y.2≠.free:=by left):aM N P sc:=⟨a,b,c,d,e,f,g⟩
def mM {kindOf:Str->Option NameKind} {x:Str}:∀ {binds:List (Str×Value)} {m:SOV},(∀ v,(x,v)∉binds)->bindL kindOf binds m x=m x
 | [],_,_=>rfl
 | (n,v)::r,m,h=>by
  unfold bindL;rw[mM λw hw=>h w (mCM _ hw)];split
  · have:x≠n:=by rintro rfl;exact h v mCS
    simp[this]
  · rfl
def mP {kindOf:Str->Option NameKind} {x:Str}:∀ {binds:List (Str×Value)} {m:SOV},(∀ v,(x,v)∉binds)->bindC kindOf binds m x=m x
 | [],_,_=>rfl
 | (n,v)::r,m,h=>by
  unfold bindC;rw[mP λw hw=>h w (mCM _ hw)];split
  · rfl
  · have:x≠n:=by rintro rfl;exact h v mCS
    simp[this]
def mN {kindOf:Str->Option NameKind} {x:Str} {v:Value}:∀ {P:List Str} {vs:List Value} {i:Nat} {m:SOV},P.Nodup->P[i]?=some x->vs[i]?=some v->kindOf x=some .local ->
 bindL kindOf (P.zip vs) m x=some v
 | [],_,_,_,_,h,_,_=>by simp at h
 | _::_,[],_,_,_,_,h,_=>by simp at h
 | p::P,w::vs,0,m,nd,h1,h2,hk=>by
  simp at h1 h2;subst h1;subst h2;show bindL kindOf ((p,w)::P.zip vs) m p=_;unfold bindL;rw[mM λv hv=>(List.nodup_cons.mp nd).1 (List.of_mem_zip hv).1,if_pos hk];simp
 | p::P,w::vs,i+1,m,nd,h1,h2,hk=>by
  show bindL kindOf ((p,w)::P.zip vs) m x=_;unfold bindL;exact mN (i:=i) (List.nodup_cons.mp nd).2 (by simpa using h1) (by simpa using h2) hk
def mQ {kindOf:Str->Option NameKind} {x:Str} {v:Value}:∀ {P:List Str} {vs:List Value} {i:Nat} {m:SOV},P.Nodup->P[i]?=some x->vs[i]?=some v->kindOf x≠some .local ->
 bindC kindOf (P.zip vs) m x=some v
 | [],_,_,_,_,h,_,_=>by simp at h
 | _::_,[],_,_,_,_,h,_=>by simp at h
 | p::P,w::vs,0,m,nd,h1,h2,hk=>by
  simp at h1 h2;subst h1;subst h2;show bindC kindOf ((p,w)::P.zip vs) m p=_;unfold bindC;rw[mP λv hv=>(List.nodup_cons.mp nd).1 (List.of_mem_zip hv).1,if_neg hk];simp
 | p::P,w::vs,i+1,m,nd,h1,h2,hk=>by
  show bindC kindOf ((p,w)::P.zip vs) m x=_;unfold bindC;exact mQ (i:=i) (List.nodup_cons.mp nd).2 (by simpa using h1) (by simpa using h2) hk
def start (N:List Str) (vs:List V):St:=vs.map some++List.replicate (N.length-vs.length) none
def iF (CX:CXT) (P:Program) (w:World) (K:Fg) (mg:SOV) (base:Heap) (N:List Str) (qual:Str) (scope:Scope) (f:Addr) (cd:Value) (A:Around) (outer:List Env) (s:Shared) (H:Hp) (E:XK):Cx where
  prog:=P
  w:=w
  K:=K
  mg:=mg
  base:=base
  A:=A.deeper (envOfC qual scope s.heap.objs.size f cd)
  N:=N
  s₀:=s
  H₀:=H
  env:=envOfC qual scope s.heap.objs.size f cd
  outer:=outer
  stack:=envOfC qual scope s.heap.objs.size f cd::outer
  ex:=[]
  calm:=true
  fn:=λ_=>true
  pn:=[]
  xe:=λe s'=>wpAny (model P w) (A.deeper (envOfC qual scope s.heap.objs.size f cd)) (leaving (envOfC qual scope s.heap.objs.size f cd) e) (λ_ s''=>CX outer H s E e s'') (λe' s''=>CX outer H s E e' s'') s'
def qf {sc:Scope} (h:sc.names.lookup x=some .cell):∃ c,(cellsFrom n sc.names []).lookup x=some c:=by
 have q:=PySem.W.cellsFrom_some sc.names n [] (.inl h);exact Option.isSome_iff_exists.mp q
def uv {K:Fg} 
 (S:aM N ps F) (D:A.handled=none) (d:Ab P w K mg base A Q s H) (M:T.length=ps.length) (r:b7 T us)
 (x:InCallC s s.heap.objs.size (bindL (envOfC R F s.heap.objs.size f Y).kindOf (ps.zip us) λ_=>none) (cellsFrom (s.heap.objs.size+1) F.names []) (bindC (envOfC R F s.heap.objs.size f Y).kindOf (ps.zip us) λ_=>none) s1):
 Inv (iF CX P w K mg base N R F f Y A Q s H E) [] (start N T) H s1:=by
 have I:ps.length<=N.length:=by have:=congrArg List.length S.pre;rw[lTk] at this;lia
 obtain⟨o,tk,rfl,B⟩:=x.done;have l:∀ b:Addr,b∉(iF CX P w K mg base N R F f Y A Q s H E).ex:=λb z=>absurd (show b∈[] from z) ?B;refine⟨⟨d.mod,S.kind,U,U,Nat.le_refl _,λy z c o g=>?_,λy j=>?_,λy c _ h=>?_,λ_=>D,Around.frames_deeper d.frames,.inr ⟨U,U⟩,λb z=>absurd z (l b),d.bs,d.bsz,λb _ _=>l b,λb z=>absurd z (l b),d.funs,d.frf⟩,
   rfl,d.bare,Un.kept B,⟨_,x.toInCall.ns,λi y v o g L=>?_⟩,λy c h=>⟨_,x.cell y c h⟩,d.hok.fresh ?M,λy c h=>?_,λp n=>absurd (show p∈[] from n) ?B,d.hok.kept B,?_⟩
 · exact name_of_addr x.apart (PySem.mem_of_lookup o) (PySem.mem_of_lookup g)
 · have j:=j
   rcases j with j | j
   · exact qf j
   · exact absurd U (S.nofree _ (PySem.mem_of_lookup j))
 · exact Nat.le_of_lt (x.above y c (PySem.mem_of_lookup h))
 · have t:i<T.length:=by
    unfold start at g;by_cases t:i<T.length
    · exact t
    · grind
   have J:T[i]?=some v:=by
    unfold start at g;rw[List.getElem?_append_left (by simpa using t),gEM] at g;cases e:T[i]? with
    | none=>rw[e] at g;cases g
    | some a=>rw[e] at g;cases g;rfl
   obtain⟨u,C,G⟩:=r.get J;have n:ps[i]?=some y:=by
    rw[<- S.pre,List.getElem?_take_of_lt (by lia)];exact o
   have m:ps.Nodup:=by rw[<- S.pre];exact S.nd.sublist (List.take_sublist _ _)
   refine⟨u,G,?_⟩
   rcases S.par y (mGE n) with k | k
   · exact .inl ⟨k,mN m n C k⟩
   · obtain⟨c,e⟩:=qf k;refine .inr ⟨.inl k,c,e,?_⟩;have q:=x.cell y c e;rw[mQ m n C (by show F.names.lookup y≠_;rw[k];decide)] at q;exact q
 · exact d.hok.fresh (Nat.le_of_lt (x.above y c (PySem.mem_of_lookup h)))
 · unfold start;show _=N.length;rw[lAp,lMp,List.length_replicate];lia
def Ff {CX:CXT} {P:Program} {w:World} {K:Fg} {O:SOV} {base:Heap} {k:Nat} {f:Addr} {name d:Str} {h:Arguments} {i:List Stmt} {a:Scope} {dV kV D pm p ct oc:Value} {an od:Option Addr}
 {R:Array (Option Value)} {N ps:List Str} {sp:Sp} (lk:K.lookup f=some ⟨oc,od,.func (PySem.W.fnOf name d h i a dV kV D pm an p ct),R⟩) (Jt:PySem.W.codeIn K p d=true) (S:aM N ps a)
 (F:∀ j H Q E,sp j H Q E->j.length=ps.length)
 (z:∀ (A:Around) (c:List Env) (s:Shared) (H:Hp) (j:List V) (Q:VK) (E:XK),fH k (A.deeper (envOfC d a s.heap.objs.size f p))->sp j H Q E ->
   ∃ t,PSs (iF CX P w K O base N d a f p A c s H E) i t/\t {nx:=λ_ m=>Q .non m,rt:=Q} (start N j) H) :
 ib P w K O base CX (k+1) f (PySem.W.fnOf name d h i a dV kV D pm an p ct) ps sp:=by
 refine⟨F,λA c s H args us j Q E T G hb r L=>?_⟩;have hl:=F _ _ _ _ L;have KX:K.In s.heap:=G.mod.kin.keeps λb o e=>(G.bs b o e).1;have Y:s.heap.NoLimit:=G.mod.nolimit.keeps λb o e=>(G.bs b o e).1;have B:∀ y∈ps.zip us,a.names.lookup y.1=some .local\/(a.names.lookup y.1=some .cell/\((cellsFrom (s.heap.objs.size+1) a.names []).lookup y.1).isSome=true):=λ⟨n,v⟩ hy=>by
  rcases S.par n (List.of_mem_zip hy).1 with q | q
  · exact .inl q
  · exact .inr ⟨q,PySem.W.cellsFrom_some _ _ _ (.inl q)⟩
 refine codeAny_call_function T.depth (KX _ _ lk) rfl S.co S.gen U (PySem.W.codeRec_of KX Jt) (hb _ _ _ _ ?_);refine wpAny_newFunctionEnv_cells S.kind B λenv he s1 x=>?_;subst he;refine⟨Y.keeps x.toInCall.keep,codeAny_func ?_⟩;obtain⟨t,ht,hq⟩:=z A c s H j Q E (T.deeper _) L;have I:Inv (iF CX P w K O base N d a f p A c s H E) [] (start N j) H s1:=uv S T.hd G hl r x;refine wpAny_mono (ht [] s1 (start N j) H _ I hq) (λfl Z C=>?_) λe Z C=>C;have M:∀ {l:St} {m:Hp} {v:V} {u:Value},Inv (iF CX P w K O base N d a f p A c s H E) [] l m Z->bh v u->Q v m->CE c P w H s Q u Z :=
  λ{l m v u} J rv q=>⟨v,m,J.os,J.bare,J.base,J.hok,rv,q⟩
 cases fl with
 | ret u =>
  obtain⟨v,l,m,J,rv,q⟩:=C;exact M J rv q
 | next =>
  obtain⟨l,m,J,q⟩:=C;exact M (v:=V.non) (u:=Value.none) J U q
 | brk =>
  obtain⟨_,_,_,q⟩:=C;exact False.elim q
 | cont =>
  obtain⟨_,_,_,q⟩:=C;exact False.elim q
section
variable {X:Cx} {x:Str} {p u:Pos} {e:Expr} {v:List Expr} {t:TA} {w T:String} {r:List V->Hp->VK->Prop}
def tCB (r:List V->Hp->VK->Prop) (t:TA):TE:=λσ H Q=>t σ H λvs H1=>r vs H1 Q
def fw (d:fZ X (.builtin w) r) (g:Gl X x) (m:X.mg x=none) (i:bootBuiltins x=some (.builtin w)) (n:PA X (e::v) t) (f:x≠"__name__":=by decide) (hdb:(x==("__debug__":Str))=false:=by decide)
 (he:starEach (e::v) X.env=?U::starEach v X.env:=by rfl) (hpl:(backTo u (starEach v X.env)).any (·.1)=false:=by rfl):PE X (.Call (.Name x p) (e::v) [] u) (tCB r t):=by
 intro a s σ H Q I h;refine wpAny_Call_Name_kw (e8 I g m i ?_ f hdb);refine PyProof.Rows.callWith_builtin1 (thn (n u a s σ H _ I h) λus l b=>?_) he hpl;obtain⟨q,j,k,c,o⟩:=b;exact d a l σ j q us Q k c o
def i7 (d:fZ X (.type T) r) (g:Gl X x) (m:X.mg x=none) (i:bootBuiltins x=some (.type T)) (n:PA X (e::v) t) (f:x≠"__name__":=by decide) (hdb:(x==("__debug__":Str))=false:=by decide)
 (he:starEach (e::v) X.env=?U::starEach v X.env:=by rfl) (hpl:(backTo u (starEach v X.env)).any (·.1)=false:=by rfl):PE X (.Call (.Name x p) (e::v) [] u) (tCB r t):=by
 intro a s σ H Q I h;refine wpAny_Call_Name_kw (e8 I g m i ?_ f hdb);refine PyProof.Rows.callWith_type1 (thn (n u a s σ H _ I h) λus l b=>?_) he hpl;obtain⟨q,j,k,c,o⟩:=b;exact d a l σ j q us Q k c o
end
end L2
namespace HT
open PySem PyProof.Rows
section
variable {prog:Program} {w:World} {A:Around} {E:VSP} {s:Shared}
def zX {Q:VSP} (B:IsTup s.heap t D.toArray) (z:IsTup s.heap b m.toArray) (u:D≠[])
 (y:m=[]->Q (.ref t) s) (C:m≠[]->Q ?V {s with heap:=s.heap.push {cls:=.type "tuple",data:=.seq (D++m).toArray}})
 (L:D.length+m.length<=sizeLine):wpAny ?L A (binaryOp .Add (.ref t) (.ref b)) Q E s:=by
 obtain⟨⟨cls,l,data,q⟩,f,r,n,o⟩:=id B;obtain⟨⟨v,c,j,a⟩,h,x,k,p⟩:=id z;simp only at r o x p;subst r o x p;have e:D.toArray++m.toArray=(D++m).toArray:=by simp
 by_cases g:m=[]
 · exact concat_meets ⟨_,f,U⟩ ⟨_,h,U⟩ noFill_tuple_add seq_tuple_add PySem.F.slot_tuple_add PySem.F.entry_tuple_add (PySem.F.args_tuple_add_2 _ _)
    (tuple_addW1 t b D.toArray m.toArray n k l c q a (by simpa using u) (by simp[g])) ⟨f,h,y g⟩
 · refine concat_meets ⟨_,f,U⟩ ⟨_,h,U⟩ noFill_tuple_add seq_tuple_add PySem.F.slot_tuple_add PySem.F.entry_tuple_add (PySem.F.args_tuple_add_2 _ _)
    (tuple_addW2 t b D.toArray m.toArray n k l c q a (by simpa using u) (by simpa using g) (by grind)) ⟨f,h,?_⟩
   rw[e];exact C g
def sIx (n d:Nat):Option Int->Nat
  | none=>d
  | some v=>if v<0 then (v+(n:Int)).toNat else min v.toNat n
def oM (n d:Nat):sIx n d none=d:=rfl
def rP (n d k:Nat):sIx n d (some (k:Int))=min k n:=by
 show (if (k:Int)<0 then ((k:Int)+(n:Int)).toNat else min (k:Int).toNat n)=min k n;rw[if_neg (by lia),Int.toNat_natCast]
def Bw (n d:Nat) (a:d<=n) (o:Option Int):sIx n d o<=n:=by
 cases o with
 | none=>exact a
 | some v =>
  show (if v<0 then (v+(n:Int)).toNat else min v.toNat n)<=n;by_cases b:v<0
  · rw[if_pos b];lia
  · grind
def xL (v:Int) (n:Nat) (h:¬ v<0):min v (n:Int)=((min v.toNat n:Nat):Int):=by grind
def tj (v:Int) (n d:Nat):(if v<0 then max (v+(n:Int)) 0 else min v (n:Int))=((sIx n d (some v):Nat):Int):=by
 show (if v<0 then max (v+(n:Int)) 0 else min v (n:Int))=(((if v<0 then (v+(n:Int)).toNat else min v.toNat n):Nat):Int);by_cases a:v<0
 · grind
 · grind
def rm (lo hi:Option Int) (n:Nat):Builtin.Slice.sliceAdjust lo hi 1 (n:Int)=(((sIx n 0 lo:Nat):Int),((sIx n n hi:Nat):Int)):=by
 have a:¬ (1<0):=by lia
 unfold Builtin.Slice.sliceAdjust;simp only[a,if_false];refine Prod.ext ?_ ?_
 · cases lo with
   | none=>rfl
   | some v=>exact tj v n 0
 · cases hi with
   | none=>rfl
   | some v=>exact tj v n n
def qG (i j:Nat):Builtin.Slice.slicePlaces (i:Int) (j:Int) 1=j-i:=by
 unfold Builtin.Slice.slicePlaces;have b:1>0:=by lia
 simp only[b,if_true,Int.ediv_one];split <;> lia
def io (p:IsPart v o) (h:Q o s):wpAny ?L A (Builtin.Slice.slicePartIndex v) Q E s:=by
 cases p with
 | none=>exact slicePart_none h
 | int i t=>exact slicePart_int h
def fS {sl:Addr} {vl vu:Value} {lo hi:Option Int} {n:Nat} {Q:Int×Int×Nat->Shared->Prop} (hs:s.heap.IsSliceOf sl vl vu .none) (pl:IsPart vl lo) (pu:IsPart vu hi)
 (h:Q (((sIx n 0 lo:Nat):Int),1,sIx n n hi-sIx n 0 lo) s):wpAny ?L A (Builtin.Slice.sliceApplied (.ref sl) (pure (n:Int))) Q E s:=by
 obtain⟨os,Je,Ip,J6⟩:=id hs;unfold Builtin.Slice.sliceApplied Builtin.Slice.sliceFields;refine wB (wB (wpAny_field Je J6 (x:=vl) U (wB (wpAny_field Je J6 (x:=vu) U (wB (wpAny_field Je J6 (x:=.none) U (wP ?_)))))));refine wB (slicePart_none ?_);show wpAny _ _ (if ((1:Int)==0)=true then _ else _) _ _ s;rw[if_neg ?G];refine wB (io pl (wB (io pu (wB (wP ?_)))));show wpAny _ _ (match Builtin.Slice.sliceAdjust lo hi 1 (n:Int) with | (lo,hi)=>pure (lo,(1:Int),Builtin.Slice.slicePlaces lo hi 1)) _ _ s;rw[rm lo hi n];show wpAny _ _ (pure (((sIx n 0 lo:Nat):Int),(1:Int),Builtin.Slice.slicePlaces ((sIx n 0 lo:Nat):Int) ((sIx n n hi:Nat):Int) 1)) _ _ s;rw[qG];exact wP h
def wj (xs:Array Value) (i k:Nat):((List.range k).filterMap λ(m:Nat)=>xs[((i:Int)+(m:Int)*1).toNat]?).toArray=((xs.toList.drop i).take k).toArray:=by
 have e:(λ(m:Nat)=>xs[(i+(m:Int)*1).toNat]?)=λm=>xs[i+m]?:=by
  funext m
  have:(i+(m:Int)*1).toNat=i+m:=by lia
  rw[this]
 rw[e];have:=pick_run xs i k;rw[List.filterMap_map] at this;have a:((λx=>xs[x]?)∘λx=>i+x)=λm=>xs[i+m]?:=rfl;rw[a] at this;rw[this]
def j4 {t sl:Addr} {items:Array Value} {vl vu:Value} {lo hi:Option Int} {Q:VSP} (ht:IsTup s.heap t items) (hs:s.heap.IsSliceOf sl vl vu .none) (pl:IsPart vl lo) (pu:IsPart vu hi)
 (hw:¬ (sIx items.size 0 lo=0/\sIx items.size items.size hi=items.size))
 (h:Q ?V {s with heap:=s.heap.push {cls:=.type "tuple",data:=.seq ((items.toList.drop (sIx items.size 0 lo)).take (sIx items.size items.size hi-sIx items.size 0 lo)).toArray}})
 (hsz:items.size<=sizeLine):wpAny ?L A (getItem (.ref t) (.ref sl)) Q E s:=by
 have Iu:sizeOk (.seq ((items.toList.drop (sIx items.size 0 lo)).take (sIx items.size items.size hi-sIx items.size 0 lo)).toArray):=by
  show ((items.toList.drop (sIx items.size 0 lo)).take (sIx items.size items.size hi-sIx items.size 0 lo)).toArray.size<=sizeLine;rw[List.size_toArray,lTk,List.length_drop,Array.length_toList];exact Nat.le_trans (Nat.min_le_right _ _) (Nat.le_trans (Nat.sub_le _ _) hsz)
 have hj:sIx items.size items.size hi<=items.size:=Bw _ _ ?M hi;obtain⟨os,Je,Ip,J6⟩:=id hs;have hTs:s.TypeIs (.ref sl) "slice":=⟨os,Je,Ip⟩;unfold getItem
 try with_reducible refine wpAny_holding ?_
 first | refine wB (wP ?_) | skip
 refine wB (wpAny_sequenceKey ht.typeIs ?G ?_);refine wB (wpAny_callSpecial?_slot (name:=Str.ofString "__getitem__") ht.typeIs PyProof.Rows.slot_tuple_getitem
   (wpAny_call_entry PyProof.Rows.slot_tuple_getitem ht.typeIs entry_tuple_getitem ?_ (args_tuple_getitem _ _)))
 show wpAny _ _ (Builtin.Tuple.tupleItemsOf (.ref t)>>=_) _ _ s;refine wB (tupleItemsOf_ ht ?_);refine wB (wpAny_typeOf hTs ?_);rw[if_pos ?G];refine wB (fS hs pl pu ?_);have J5:¬ ((((sIx items.size 0 lo:Nat):Int)==0&&(1:Int)==1&&(sIx items.size items.size hi-sIx items.size 0 lo)==items.size)=true):=by
  intro q;rw[Bool.and_eq_true,Bool.and_eq_true] at q;have q1:((sIx items.size 0 lo:Nat):Int)=0:=eq_of_beq q.1.1;have q2:sIx items.size items.size hi-sIx items.size 0 lo=items.size:=eq_of_beq q.2;exact hw ⟨by lia,by lia⟩
 show wpAny _ _ (if (((sIx items.size 0 lo:Nat):Int)==0&&(1:Int)==1&&(sIx items.size items.size hi-sIx items.size 0 lo)==items.size)=true then _ else _) _ _ s;rw[if_neg J5,wj]
 first
  | exact wB (m:=Builtin.Tuple.tupleExact _) (wpAny_newObj_type (wP ⟨_,U,wP h⟩) Iu)
  | exact wB (m:=Builtin.Tuple.tupleExact _) (wpAny_newObj_type (wB (wP (wP ⟨_,U,wP h⟩))) Iu)
  | exact wB (wB (m:=Builtin.Tuple.tupleExact _) (wpAny_newObj_type (wP (wP ⟨_,U,wP h⟩)) Iu))
  | exact wB (wB (m:=Builtin.Tuple.tupleExact _) (wpAny_newObj_type (wP ⟨_,U,wP h⟩) Iu))
end
end HT
namespace L2
open PySem PySem.Spec PyProof.Rows
abbrev TO:=St->Hp->(Option Int->Hp->Prop)->Prop
def PO (X:Cx) (e:Option Expr) (t:TO):Prop :=
  ∀ (pins:AOs) (s:Shared) (σ:St) (H:Hp) (Q:Option Int->Hp->Prop),Inv X pins σ H s->t σ H Q ->
    wpAny ?N X.A (evalPart e X.env) (λu s'=>∃ o H',Inv X pins σ H' s'/\IsPart u o/\Q o H') X.xe s
def rJ:TO:=λ_ H Q=>Q none H
def Af (t:TE):TO:=λσ H Q=>t σ H λx H1=>CD x H1 λi H2=>Q (some i) H2
def qW:∀ {a:List Value},b7 (b.map V.int) a->IntsAre a b:=by
 induction b with
 | nil=>intro a r;rw[List.map_nil] at r;cases r;exact .nil
 | cons n b f =>
  intro a r;rw[List.map_cons] at r;cases r with
  | cons d c =>
   obtain⟨t,e⟩:=d;subst e;exact .cons n t (f c)
section
variable {X:Cx} {e:Expr} {te:TE} {lo hi:Option Expr} {R Y:TO} {pos p2:Pos}
def dE:PO X none rJ:=by
 intro a s σ H Q I h;rw[evalPart_none];exact wP ⟨none,H,I,.none,h⟩
def cC (h:PE X e te):PO X (some e) (Af te):=by
 intro a s σ H Q I g;rw[evalPart_some];refine thn (h a s σ H _ I g) λu k b=>?_;obtain⟨x,c,f,d,j⟩:=b;obtain⟨i,rfl,q⟩:=j;obtain⟨t,rfl⟩:=d;exact⟨some i,c,f,.int i t,q⟩
def SlR (X:Cx) (r:V->Option Int->Option Int->Hp->VK->Prop):Prop :=
  ∀ (pins:AOs) (s:Shared) (σ:St) (H:Hp) (x:V) (v vl vu:Value) (lo hi:Option Int) (sl:Addr) (Q:VK),Inv X pins σ H s->bh x v->s.heap.IsSliceOf sl vl vu .none->IsPart vl lo->IsPart vu hi->r x lo hi H Q ->
    ∃ T id,typeLookup (.type T) "__getitem__"=pure (some (.builtin id))/\s.TypeIs v T/\wpAny ?N X.A (getItem v (.ref sl)) (EP X pins σ Q) X.xe s
def tSl (r:V->Option Int->Option Int->Hp->VK->Prop) (te:TE) (R Y:TO):TE:=λσ H Q=>te σ H λx H1=>R σ H1 λl H2=>Y σ H2 λu H3=>r x l u H3 Q
def cF (p:SlR X r) (he:PE X e te) (J:PO X lo R) (A:PO X hi Y):PE X (.Subscript e (.Slice lo hi none p2) pos) (tSl r te R Y):=by
 intro a s i H Q I h;refine Subscript_ (thn (he a s i H _ I h) λv L b=>?_);obtain⟨x,m,K,w,E⟩:=b;refine wpAny_Slice (thn (J a L i m _ K E) λS z g=>?_);obtain⟨l,M,t,B,C⟩:=g;refine thn (A a z i M _ t C) λW d c=>?_;obtain⟨u,k,n,N,F⟩:=c;rw[evalPart_none];refine wP ?_;have y:Inv X a i k {d with heap:=d.heap.push {cls:=.type "slice",data:=.fields #[S,W,.none]}}:=n.kept λb O q=>hpS _ q;obtain⟨T,P,D,G,o⟩:=p a {d with heap:=d.heap.push {cls:=.type "slice",data:=.fields #[S,W,.none]}} i k x v S W l u d.heap.objs.size Q y w (Heap.IsSliceOf.new ..) B N F;exact tail_any G D o (by with_unfolding_all rfl)
def gP (xs:List V) (lo hi:Option Int):List V:=(xs.drop (HT.sIx xs.length 0 lo)).take (HT.sIx xs.length xs.length hi-HT.sIx xs.length 0 lo)
def pU (xs:List V) (lo hi:Option Int):(gP xs lo hi).length<=xs.length:=by
 unfold gP;rw[lTk,List.length_drop];exact Nat.le_trans (Nat.min_le_right _ _) (Nat.sub_le _ _)
def Gv (K:Fg):V->Option Int->Option Int->Hp->VK->Prop:=λx lo hi H Q=>∃ a xs,x=.ref a/\SqT K H a xs /\
  ¬ (HT.sIx xs.length 0 lo=0/\HT.sIx xs.length xs.length hi=xs.length)/\∀ p,H p=none->Q (.ref p) (upd H p (.tup (gP xs lo hi)))
def qz:SlR X (Gv X.K):=by
 intro g s σ H x v w u e k z Q I m l n t h;obtain⟨a,c,rfl,o,p,q⟩:=h;cases m;obtain⟨f,r,j,i⟩:=I.tuple o;have b:f.toArray.size=c.length:=by rw[List.size_toArray];exact r.length.symm
 refine⟨"tuple",_,PyProof.Rows.slot_tuple_getitem.lookup,j.typeIs,?_⟩;refine HT.j4 j l n t (by rw[b];exact p) ?_ (by rw[b];exact i);rw[b];refine⟨.ref s.heap.objs.size,_,I.laid (λb y q=>hpS _ q) ?M ?_,U,q _ (I.hok.fresh ?M)⟩;exact⟨Nat.le_trans (pU c e k) i,_,(r.drop (HT.sIx c.length 0 e)).take (HT.sIx c.length c.length k-HT.sIx c.length 0 e),IsTup.new _ _⟩
def E5 (K:Fg):R2:=λx y H Q=>∃ a b xs ys,x=.ref a/\y=.ref b/\SqT K H a xs/\SqT K H b ys/\xs≠[]/\xs.length+ys.length<=sizeLine /\
  (ys=[]->Q (.ref a) H)/\(ys≠[]->∀ p,H p=none->Q (.ref p) (upd H p (.tup (xs++ys))))
def b7.nil_iff (r:b7 xs us):us=[]↔xs=[]:=by
 cases r with
 | _=>simp
def zi:OpR X (binaryOp .Add) (E5 X.K):=by
 intro f s σ H x y v u Q I l j h;obtain⟨a,b,A,t,rfl,rfl,m,o,i,g,p,n⟩:=h;cases l;cases j;obtain⟨r,d,p1,_⟩:=I.tuple m;obtain⟨B,c,k,_⟩:=I.tuple o;refine HT.zX p1 k (λz=>i (d.nil_iff.mp z)) (λz=>⟨.ref a,H,I,U,p (c.nil_iff.mp z)⟩) (λz=>?_) (by rw[<- d.length,<- c.length];exact g);refine⟨.ref s.heap.objs.size,_,I.laid (λb C q=>hpS _ q) ?M ?_,U,n (λw=>z (c.nil_iff.mpr w)) _ (I.hok.fresh ?M)⟩;exact⟨by rw[lAp];exact g,_,d.append c,IsTup.new _ _⟩
end
def ixN (n:Nat) (i:Int):Option Nat:=if 0<=i then (if i<n then some i.toNat else none) else if -(n:Int)<=i then some (i+n).toNat else none
def atI {α:Type} (xs:List α) (i:Int):Option α:=(ixN xs.length i).bind λj=>xs[j]?
def sI (h:ixN n i=some j):seqIndex? i n=some j/\j<n/\-(n:Int)<=i/\i<n:=by
 unfold ixN at h;by_cases c:0<=i
 · rw[if_pos c] at h;by_cases b:i<n
   · rw[if_pos b] at h;have e:=Option.some.inj h;exact⟨by rw[seqIndex_of c b,e],by lia,by lia,b⟩
   · rw[if_neg b] at h;cases h
 · rw[if_neg c] at h;by_cases b:-n<=i
   · rw[if_pos b] at h;have e:=Option.some.inj h;exact⟨by rw[seqIndex_neg (by lia) b,e],by lia,b,by lia⟩
   · rw[if_neg b] at h;cases h
def tE {v:α} (h:atI xs i=some v):∃ j,seqIndex? i xs.length=some j/\xs[j]?=some v/\j<xs.length/\-(xs.length:Int)<=i/\i<xs.length:=by
 unfold atI at h;cases e:ixN xs.length i with
 | none=>rw[e] at h;cases h
 | some j =>
  rw[e] at h;obtain⟨b,c,d,a⟩:=sI e;exact⟨j,b,h,c,d,a⟩
def pI {j:Nat} {v:α} (h:xs[j]?=some v):atI xs (j:Int)=some v:=by
 have a:=(gES.mp h).1;have e:ixN xs.length j=some j:=by
  unfold ixN;rw[if_pos (by lia),if_pos (by lia)];simp
 unfold atI;rw[e];exact h
def A8 (b:Expr):Prop:=∀ o i,subscripted b false o i=operate [o,i] (getItem o i)
def IxR (X:Cx) (r:R2):Prop :=
  ∀ (value slice:Expr) (pins:AOs) (s:Shared) (σ:St) (H:Hp) (x y:V) (v u:Value) (Q:VK),Inv X pins σ H s->bh x v->bh y u->r x y H Q ->
    subscripted slice false v u=operate [v,u] (getItem v u)->wpAny ?N X.A (subscriptTail value slice v u) (EP X pins σ Q) X.xe s
def MtR (X:Cx) (id:String) (r:V->List V->Hp->VK->Prop):Prop :=
  ∀ (pins:AOs) (s:Shared) (σ:St) (H:Hp) (x:V) (xs:List V) (v:Value) (us:List Value) (Q:VK),Inv X pins σ H s->bh x v->b7 xs us->r x xs H Q ->
    wpAny ?N X.A (call (.builtin id) (v::us)) (EP X pins σ Q) X.xe s
inductive Fv (K:Fg) (xs:List V) (H:Hp) (Q:VK):Prop
  | mk (p:Addr) (ys:List V) (h1:xs=[.ref p]) (h2:SqL K H p ys\/SqT K H p ys) (q:Q (.int ys.length) H):Fv K xs H Q
def Bz (K:Fg):List V->Hp->VK->Prop:=λxs H Q=>Fv K xs H Q
inductive xX (K:Fg) (xs:List V) (H:Hp) (Q:VK):Prop
  | mk (p:Addr) (ys:List V) (h1:xs=[.ref p]) (h2:(SqL K H p ys/\∀ l,H l=none->Q (.ref l) (upd H l (.tup ys)))\/(SqT K H p ys/\Q (.ref p) H)):xX K xs H Q
def vU (K:Fg):List V->Hp->VK->Prop:=λxs H Q=>xX K xs H Q
section
variable {X:Cx} {a b:Expr} {O Y:TE} {pos:Pos}
def aj {r:R2} (k:IxR X r) (g:PE X a O) (i:PE X b Y) (m:A8 b):PE X (.Subscript a b pos) (tOp r O Y):=by
 intro c s σ H Q I h;exact Subscript_ (Cs g i I h λv u j x y l e f d q=>k a b c j σ l x y v u Q e f d q (m _ _))
inductive Fy (K:Fg) (x y:V) (H:Hp) (Q:VK):Prop
  | mk (p:Addr) (xs:List V) (i:Int) (v:V) (h:x=.ref p) (h':y=.int i) (s:SqL K H p xs) (a:atI xs i=some v) (q:Q v H):Fy K x y H Q
inductive Fx (K:Fg) (x y:V) (H:Hp) (Q:VK):Prop
  | mk (p:Addr) (xs:List V) (i:Int) (v:V) (h:x=.ref p) (h':y=.int i) (s:SqT K H p xs) (a:atI xs i=some v) (q:Q v H):Fx K x y H Q
def oP (K:Fg):R2:=λx y H Q=>Fy K x y H Q
def fN (K:Fg):R2:=λx y H Q=>Fx K x y H Q
def Gy:R2:=λx y H Q=>∃ z i c,x=.str z/\y=.int i/\z.length<=sizeLine/\atI z.cps.toList i=some c/\Q (.str ⟨#[c]⟩) H
def b8:IxR X (oP X.K):=by
 intro g d a s S H x y v u Q I E D h m;obtain⟨p,M,i,z,rfl,rfl,A,G,q⟩:=h;cases E;obtain⟨t,rfl⟩:=D;obtain⟨f,r,e,L⟩:=I.list A;obtain⟨j,b,B,N,o,C⟩:=tE G;obtain⟨w,l,k⟩:=r.get B;have F:=r.length;have J:=jz;have R:EP X a S Q w s:=⟨z,H,I,k,q⟩;by_cases n:0<=i
 · have c:i.toNat=j:=by
    rw[seqIndex_of n C] at b;exact Option.some.inj b
   exact item_listR e.isList n (by lia) (by rw[c];simpa using l) R m
 · have c:(i+f.toArray.size).toNat=j:=by
    rw[seqIndex_neg (by lia) o] at b;rw[List.size_toArray,<- F];exact Option.some.inj b
   exact subscriptTail_builtinR e.isList.typeIs slot_list_getitem.lookup
    (wpAny_getItem_list_neg e.isList (by lia) (by grind) (by lia) (by rw[c];simpa using l) ⟨U,R⟩) m
def ae:IxR X (fN X.K):=by
 intro c b a s σ H x y v u Q I o n h m;obtain⟨p,J,i,z,rfl,rfl,f,C,q⟩:=h;cases o;obtain⟨t,rfl⟩:=n;obtain⟨A,r,e,G⟩:=I.tuple f;obtain⟨j,l,g,L,D,F⟩:=tE C;obtain⟨w,k,d⟩:=r.get g;have B:=r.length;have E:=jz;have fin:EP X a σ Q w s:=⟨z,H,I,d,q⟩;exact subscriptTail_builtinR e.typeIs slot_tuple_getitem.lookup
  (getItem_tuple e (by lia) (by lia) (by rw[List.size_toArray,<- B];exact l) (by simpa using k) ⟨U,fin⟩) m
def qO (its:List Value) (n j:Nat) (u:Value):Obj.mapSeq (·.setIfInBounds j u) {cls:=.type "list",data:=.seq its.toArray n}={cls:=.type "list",data:=.seq (its.set j u).toArray n}:=by
 simp[Obj.mapSeq]
def Inv.lst {a:AOs} {σ:St} {H:Hp} {s:Shared} {p:Addr} {xs:List V} (I:Inv X a σ H s) (h:H p=some (.lst xs)) :
 ∃ (its:List Value) (n:Nat),b7 xs its/\s.heap.get? p=some {cls:=.type "list",data:=.seq its.toArray n}/\xs.length<=sizeLine:=by
 obtain⟨z,its,n,r,e⟩:=I.hok p _ h;exact⟨its,n,r,e,z⟩
def Inv.lstUpd {pins:AOs} {σ:St} {H:Hp} {s:Shared} {p:Addr} {xs ys:List V} {its its':List Value} {n n':Nat} {f:Obj->Obj} (I:Inv X pins σ H s) (h:H p=some (.lst xs))
 (ho:s.heap.get? p=some {cls:=.type "list",data:=.seq its.toArray n}) (hf:f {cls:=.type "list",data:=.seq its.toArray n}={cls:=.type "list",data:=.seq its'.toArray n'}) (r:b7 ys its') (hz:ys.length<=sizeLine) (t:Nat) :
 Inv X pins σ (upd H p (.lst ys)) {s with heap:=s.heap.update p f,toks:=t}:=by
 have e:(s.heap.update p f).get? p=some {cls:=.type "list",data:=.seq its'.toArray n'}:=by
  rw[Heap.get?_update_self f ho (by rw[hf] <;> rfl),hf]
 refine I.write (x:=p) (e:=p) (by rw[h];trivial) (.inl U) (λb u hb q=>(Heap.get?_update_other _ _ (Ne.symm hb)).trans q) ⟨_,e⟩ ?_;exact⟨hz,its',n',r,e⟩
def DZ:V->V->V->Hp->(Hp->Prop)->Prop:=λo i v H Q=>∃ p xs k j,o=.ref p/\i=.int k/\H p=some (.lst xs)/\ixN xs.length k=some j/\Q (upd H p (.lst (xs.set j v)))
def vG:Ft X DZ:=by
 intro e s σ H o i v C D u Q I A w z h;obtain⟨p,J,k,j,rfl,rfl,l,x,q⟩:=h;cases A;obtain⟨t,rfl⟩:=w;obtain⟨a,n,r,c,G⟩:=I.lst l;obtain⟨b,F,B,m⟩:=sI x;have y:=r.length;have E:=jz;have f:=
  I.lstUpd l c (qO a n j u) (r.set z j) (by grind) s.toks
 by_cases g:0<=k
 · have d:k.toNat=j:=by
    rw[seqIndex_of g m] at b;exact Option.some.inj b
   exact PySem.W.ki_setAt c g (by lia) (by grind) (by rw[d];exact⟨_,f,q⟩)
 · have d:(k+a.toArray.size).toNat=j:=by
    rw[seqIndex_neg (by lia) B] at b;rw[List.size_toArray,<- y];exact Option.some.inj b
   exact PySem.W.ki_setBack c (by lia) (by grind) (by lia) (by rw[d];exact⟨_,f,q⟩)
def fK:V->Bool
  | .non=>true
  | .bl _=>true
  | .int _=>true
  | .str _=>true
  | _=>false
def eqV:V->V->Bool
  | .non,.non=>true
  | .bl a,.bl b=>a==b
  | .bl a,.int b=>(if a then 1 else 0)==b
  | .int a,.bl b=>a==(if b then 1 else 0)
  | .int a,.int b=>a==b
  | .str a,.str b=>a==b
  | _,_=>false
def xC (e:bh y u) (c:bh x v) (g:fK y=true) (f:fK x=true):SeqAt.EqAt A s u v (eqV y x):=by
 cases y with
 | non =>
  cases e;cases x with
  | non=>cases c;exact SeqAt.EqAt.same _
  | bl b=>cases c;exact SeqAt.EqAt.none_bool b
  | int b=>obtain⟨t,rfl⟩:=c;exact SeqAt.EqAt.none_int b t
  | str b=>obtain⟨t,rfl⟩:=c;exact SeqAt.EqAt.none_str b t
  | _=>exact absurd (show false=true from f) Bool.false_ne_true
 | bl a =>
  cases e;cases x with
  | non=>cases c;exact SeqAt.EqAt.bool_none a
  | bl b=>cases c;exact SeqAt.EqAt.bool_bool a b
  | int b=>obtain⟨t,rfl⟩:=c;exact SeqAt.EqAt.bool_int a b t
  | str b=>obtain⟨t,rfl⟩:=c;exact SeqAt.EqAt.bool_str a b t
  | _=>exact absurd (show false=true from f) Bool.false_ne_true
 | int a =>
  obtain⟨d,rfl⟩:=e;cases x with
  | non=>cases c;exact SeqAt.EqAt.int_none a d
  | bl b=>cases c;exact SeqAt.EqAt.int_bool a d b
  | int b=>obtain⟨t,rfl⟩:=c;exact SeqAt.EqAt.int_int a d b t
  | str b=>obtain⟨t,rfl⟩:=c;exact SeqAt.EqAt.int_str a d b t
  | _=>exact absurd (show false=true from f) Bool.false_ne_true
 | str a =>
  obtain⟨d,rfl⟩:=e;cases x with
  | non=>cases c;exact SeqAt.EqAt.str_none a d
  | bl b=>cases c;exact SeqAt.EqAt.str_bool a d b
  | int b=>obtain⟨t,rfl⟩:=c;exact SeqAt.EqAt.str_int a d b t
  | str b=>obtain⟨t,rfl⟩:=c;exact SeqAt.EqAt.str_str a d b t
  | _=>exact absurd (show false=true from f) Bool.false_ne_true
 | _=>exact absurd (show false=true from g) Bool.false_ne_true
def eqU (x:V) (u:Value):Bool:=match u with
  | .none=>eqV .non x
  | .bool b=>eqV (.bl b) x
  | .int i _=>eqV (.int i) x
  | .str z _=>eqV (.str z) x
  | _=>false
def xB (r:bh y u) (f:fK y=true):eqU x u=eqV y x:=by
 cases y with
 | non=>cases r;rfl
 | bl b=>cases r;rfl
 | int i=>obtain⟨t,rfl⟩:=r;rfl
 | str z=>obtain⟨t,rfl⟩:=r;rfl
 | _=>exact absurd (show false=true from f) Bool.false_ne_true
def kK:∀ {xs:List V} {a:List Value},b7 xs a->xs.all fK=true->a.any (eqU x)=xs.any λy=>eqV y x:=by
 intro xs a h
 induction h with
 | nil=>intro _;rfl
 | cons r t b =>
  intro f;rw[List.all_cons,Bool.and_eq_true] at f;rw[List.any_cons,List.any_cons,xB r f.1,b f.2]
def iX (c:bh x v) (d:fK x=true):∀ {xs:List V} {b:List Value},b7 xs b->xs.all fK=true->∀ u∈b,SeqAt.EqAt A s u v (eqU x u):=by
 intro xs b h
 induction h with
 | nil=>intro _ u a;cases a
 | cons r t e =>
  intro f u a;rw[List.all_cons,Bool.and_eq_true] at f
  ext e
  · rw[xB r f.1];exact xC r c f.1 d
  · exact e f.2 u a
def inV (x:V) (xs:List V):Bool:=xs.any λy=>eqV y x
def rIn (K:Fg) (neg:Bool):R2:=λx y H Q=>∃ p xs,y=.ref p/\(SqL K H p xs\/SqT K H p xs)/\fK x=true/\xs.all fK=true/\Q (.bl (if neg then !inV x xs else inV x xs)) H
def fj:OpR X (compareOp .In) (rIn X.K false):=by
 intro e s σ H x y v u Q I f i h;obtain⟨p,k,rfl,b,g,fs,q⟩:=h;cases i
 rcases b with b | b
 · obtain⟨a,r,c,j⟩:=I.list b;refine SeqAt.in_listAt (eqU x) c.isList (λw d=>iX f g r fs w (by simpa using d)) ⟨.bl _,H,I,U,?_⟩;ext s
 · obtain⟨a,r,c,j⟩:=I.tuple b;refine SeqAt.in_tupleAt (eqU x) c (λw d=>iX f g r fs w (by simpa using d)) ⟨.bl _,H,I,U,?_⟩;ext s
def iV:OpR X (compareOp .NotIn) (rIn X.K true):=by
 intro e s σ H x y v u Q I f i h;obtain⟨p,k,rfl,b,g,fs,q⟩:=h;cases i
 rcases b with b | b
 · obtain⟨a,r,c,j⟩:=I.list b;refine SeqAt.notIn_listAt (eqU x) c.isList (λw d=>iX f g r fs w (by simpa using d)) ⟨.bl _,H,I,U,?_⟩;ext s
 · obtain⟨a,r,c,j⟩:=I.tuple b;refine SeqAt.notIn_tupleAt (eqU x) c (λw d=>iX f g r fs w (by simpa using d)) ⟨.bl _,H,I,U,?_⟩;ext s
def nD:OpR X (compareOp .NotIn) (λx y H Q=>∃ i j,x=.str i/\y=.str j/\Q (.bl (!(!(Builtin.Str.occurrences j i 0 j.length 1).isEmpty))) H):=by
 intro a s σ H x y v u Q I c b h;obtain⟨i,j,rfl,rfl,q⟩:=h;obtain⟨t,rfl⟩:=c;obtain⟨d,rfl⟩:=b;exact notIn_str ⟨.bl _,H,I,U,q⟩
def oo:fZ X (.builtin "len") (Bz X.K):=by
 intro f s σ H m l Q I r h;obtain⟨p,g,rfl,b,q⟩:=h;obtain⟨u,rfl,i⟩:=iN r;cases i;have k:=jz
 rcases b with b | b
 · obtain⟨e,c,d,j⟩:=I.list b;have a:=c.length;exact Calls.call_len_list d.isList (by grind) ⟨.int g.length,H,I.tok _,⟨s.toks+1,by rw[List.size_toArray,a]⟩,q⟩
 · obtain⟨e,c,d,j⟩:=I.tuple b;have a:=c.length;exact len_tuple d (by grind) ⟨.int g.length,H,I.tok _,⟨s.toks+1,by rw[List.size_toArray,a]⟩,q⟩
def om:fZ X (.builtin "len") (λxs H Q=>∃ z,xs=[.str z]/\z.length<=sizeLine/\Q (.int z.length) H):=by
 intro a s σ H xs d Q I r h;obtain⟨z,rfl,e,q⟩:=h;obtain⟨u,rfl,t,rfl⟩:=iN r;have c:=jz;exact len_str (by lia) ⟨.int z.length,H,I.tok _,⟨_,U⟩,q⟩
def oj:fZ X (.type "list") (λF H Q=>∃ p c,F=[.ref p]/\(SqL X.K H p c\/SqT X.K H p c)/\∀ l,H l=none->Q (.ref l) (upd H l (.lst c))):=by
 intro i s M H F D Q I r h;obtain⟨p,c,rfl,j,q⟩:=h;obtain⟨u,rfl,B⟩:=iN r;cases B;have z:∀ (a:List Value),b7 c a->c.length<=sizeLine->∀ (g:Heap) f,(∀ b A,s.heap.get? b=some A->g.get? b=some A) ->
  g.get? s.heap.objs.size=some {cls:=.type "list",dict:=none,data:=.seq a.toArray f,slots:=#[]}->EP X i M Q ?V {s with heap:=g}:=λa d m g f C e =>
  ⟨.ref s.heap.objs.size,_,I.laid C ?M (show bV X.prog X.w _ g _ (.lst c) from ⟨m,a,f,d,e⟩),U,q _ (I.hok.fresh ?M)⟩
 rcases j with j | j
 · obtain⟨a,d,v,m⟩:=I.list j;have k:=d.length;obtain⟨o,y,x,n,t⟩:=v.isList;exact call_list_seq p (.inl U) y x t (λg f C e=>z a d m g f C e) (by grind)
 · obtain⟨a,d,v,m⟩:=I.tuple j;have k:=d.length;obtain⟨o,y,x,n,t⟩:=v;exact call_list_seq p (.inr U) y x t (λg f C e=>z a d m g f C e) (by grind)
def lU:fZ X (.type "tuple") (vU X.K):=by
 intro g s σ H v t Q I r h;obtain⟨p,m,rfl,h⟩:=h;obtain⟨u,rfl,n⟩:=iN r;cases n
 rcases h with ⟨b,q⟩ | ⟨b,q⟩
 · obtain⟨a,c,d,k⟩:=I.list b;have i:=c.length;refine call_tuple_list d.isList (λh' kp=>?_) (by grind);have j:=I.kept (t':=s.toks) kp;have l:=
    j.laid (t':=s.toks) (λb o e=>hpS _ e) ?M (show bV X.prog X.w _ _ _ (.tup m) from ⟨k,a,c,IsTup.new _ _⟩)
   exact⟨.ref h'.objs.size,_,l,U,q _ (j.hok.fresh ?M)⟩
 · obtain⟨a,c,d,k⟩:=I.tuple b;exact call_tuple_same d ⟨.ref p,H,I,U,q⟩
def tyV (K:Fg) (T:String) (x:V) (H:Hp):Prop:=match x with
  | .str _=>T="str"
  | .int _=>T="int"
  | .ref p=>(T="list"/\∃ xs,SqL K H p xs)\/(T="tuple"/\∃ o,K.lookup p=some o/\o.cls=.type "tuple"/\o.dict=none) \/
      (T="dict"/\((∃ kvs,H p=some (.dK kvs))\/∃ kvs,H p=some (.dT kvs)))\/(T="set"/\∃ S n,H p=some (.set S n))
  | _=>False
def vi {g:St} (I:Inv X pins g H s) (r:bh x v) (k:tyV X.K T x H):
 s.TypeIs v T/\∀ a,v=.ref a->∃ y,s.heap.get? a=some y/\y.dict=none:=by
 cases x with
 | str z =>
  obtain⟨t,rfl⟩:=r;cases (show T="str" from k);exact⟨typeIs_str s z t,λ_ e=>nomatch e⟩
 | int i =>
  obtain⟨t,rfl⟩:=r;cases (show T="int" from k);exact⟨typeIs_int s i t,λ_ e=>nomatch e⟩
 | ref p =>
  cases r
  rcases k with ⟨rfl,D,A⟩ | ⟨rfl,o,d,B,m⟩ | ⟨rfl,d⟩ | ⟨rfl,S,n,d⟩
  · obtain⟨C,_,w,_⟩:=I.list A;refine⟨w.isList.typeIs,λa e=>?_⟩;cases e;obtain⟨o,n,e,c,m,_⟩:=w;exact⟨o,e,m⟩
  · refine⟨⟨o,I.kIn p o d,B⟩,λa e=>?_⟩;cases e;exact⟨o,I.kIn _ o d,m⟩
  · have z:∃ o,s.heap.get? p=some o/\o.ExactDict:=by
     rcases d with ⟨l,d⟩ | ⟨l,d⟩
     · obtain⟨_,_,_,_,o,_,_,e,f,_⟩:=I.hok p _ d;exact⟨o,e,f⟩
     · obtain⟨_,_,_,_,o,_,_,e,f,_⟩:=I.hok p _ d;exact⟨o,e,f⟩
    obtain⟨o,e,f⟩:=z;refine⟨⟨o,e,f.1⟩,λa u=>?_⟩;cases u;exact⟨o,e,f.2.1⟩
  · obtain⟨o,_,_,_,e,f,_⟩:=I.hok p _ d;refine⟨⟨o,e,f.1⟩,λa u=>?_⟩;cases u;exact⟨o,e,f.2.1⟩
 | _=>exact False.elim k
def D2 (K:Fg) (T:String) (r:V->List V->Hp->VK->Prop) (to:TE):TE:=λσ H Q=>to σ H λx H1=>tyV K T x H1/\r x [] H1 Q
def tBM (K:Fg) (T:String) (r:V->List V->Hp->VK->Prop) (to:TE) (t:TA):TE:=λσ H Q=>to σ H λx H1=>tyV K T x H1/\t σ H1 λxs H2=>r x xs H2 Q
variable {o e:Expr} {Z:List Expr} {to:TE} {t:TA} {name:Str} {HR R:Pos} {T S:String} {r:V->List V->Hp->VK->Prop}
def BH (m:PlainAttrs T) (b:Slot T name S) (g:typeOf (.builtin S)=pure (.type "method_descriptor")) (j:MtR X S r) (u:PE X o to)
 (k:attributeBase o name X.env (eval o X.env)=eval o X.env:=by rfl) (q:(HR.endLine==R.line)=true:=by rfl):PE X (.Call (.Attribute o name HR) [] [] R) (D2 X.K T r to):=by
 intro a s σ H Q I h;refine wpAny_Call_method0_late k q (thn (u a s σ H _ I h) λv l c=>?_);obtain⟨x,i,f,e,w,t⟩:=c;obtain⟨p,n⟩:=vi f e w;exact⟨T,S,m,b,g,p,n,Calls.callWith_builtin U (PySem.evalArgs_none (j a l σ i x [] v [] Q f e .nil t))⟩
def sh (J:PlainAttrs T) (c:Slot T name S) (M:typeOf (.builtin S)=pure (.type "method_descriptor")) (q:MtR X S r) (p:PE X o to) (w:PA X (e::Z) t)
 (n:attributeBase o name X.env (eval o X.env)=eval o X.env:=by rfl)
 (f:((backTo R (starEach (e::Z) X.env)).all (λx=>!x.1)&&(backToKw R (keywordEach [] X.env)).all (λx=>x.1.isSome)
   && decide ((e::Z).length+([]:List Keyword).length+(if ([]:List Keyword).isEmpty then 0 else 1)<30))=true:=by rfl)
 (E:(HR.endLine==R.line)=true:=by rfl) (C:starEach (e::Z) X.env=?U::starEach Z X.env:=by rfl) (P:(backTo R (starEach Z X.env)).any (·.1)=false:=by rfl) :
 PE X (.Call (.Attribute o name HR) (e::Z) [] R) (tBM X.K T r to t):=by
 intro a s W H Q I h;refine wpAny_Call_method_late n f E U (thn (p a s W H _ I h) λv G b=>?_);obtain⟨x,l,k,j,B,F⟩:=b;obtain⟨z,y⟩:=vi k j B;refine⟨T,S,J,c,M,z,y,?_⟩;have i:=w R a G W l _ k F;rw[C] at i ⊢;refine Calls.callWith_builtin (by grind) (Calls.evalArgs_plain ?_);refine thn i λus A d=>?_;obtain⟨L,N,u,m,D⟩:=d;exact q a A W N x L v us Q u j m D
end
def MtM (X:Cx) (id:String) (r:V->List V->Hp->VK->Prop):Prop :=
  ∀ (pins:AOs) (s:Shared) (σ:St) (H:Hp) (x:V) (xs:List V) (v:Value) (us:List Value) (Q:VK),Inv X pins σ H s->bh x v->b7 xs us->r x xs H Q ->
    wpAny ?N X.A (call (.builtin id) (v::us)) (EP X pins σ Q) X.xe s
def b7.one:∀ {x:V} {a:List Value},b7 [x] a->∃ u,a=[u]/\bh x u:=by
 intro x a h;cases h with
 | cons r t=>cases t;exact⟨_,U,r⟩
def b7.two:∀ {x y:V} {a:List Value},b7 [x,y] a->∃ u v,a=[u,v]/\bh x u/\bh y v:=by
 intro x y a h;cases h with
 | cons r t=>obtain⟨u,rfl,q⟩:=b7.one t;exact⟨_,_,U,r,q⟩
def b7.zero:∀ {us:List Value},b7 [] us->us=[]
 | _,.nil=>rfl
def b7.dropLast (h:b7 xs us):b7 xs.dropLast us.dropLast:=by
 induction h with
 | nil=>exact .nil
 | cons r t a =>
  cases t with
  | nil=>exact .nil
  | cons q b=>exact .cons r a
def b7.rep {xs:List V} {us:List Value} (h:b7 xs us):∀ k:Nat,b7 (List.replicate k xs).flatten (List.replicate k us).flatten
 | 0=>.nil
 | k+1=>by
  rw[List.replicate_succ,List.replicate_succ,List.flatten_cons,List.flatten_cons];exact b7.append h (b7.rep h k)
def qZ {α:Type} (l:List α):l.eraseIdx (l.length-1)=l.dropLast:=by grind
def mE (its:List Value):∀ (k:Nat) (acc:List Value),
 List.foldl (λx1 x2=>x1++x2) acc.toArray (List.replicate k its.toArray)=(acc++(List.replicate k its).flatten).toArray
 | 0,acc=>by simp
 | k+1,acc=>by
  have e:acc.toArray++its.toArray=(acc++its).toArray:=by simp
  have e2:(acc++its)++(List.replicate k its).flatten=acc++(List.replicate (k+1) its).flatten:=by
   rw[List.replicate_succ,List.flatten_cons,List.append_assoc]
  rw[<- e2,<- mE its k (acc++its),<- e,List.replicate_succ,List.foldl_cons]
section
variable {X:Cx} {c:AOs} {d:St} {H:Hp} {s:Shared} {l b:Addr} {xs ys zs:List V}
def Inv.lset {its its':List Value} {n:Nat} {f:Array Value->Array Value} {t':Nat} (I:Inv X c d H s) (hH:H l=some (.lst xs))
 (e:s.heap.get? l=some {cls:=.type "list",data:=.seq its.toArray n}) (hf:f its.toArray=its'.toArray) (hv:b7 ys its') (hz:ys.length<=sizeLine) :
 Inv X c d (upd H l (.lst ys)) {s with heap:=s.heap.update l (Obj.mapSeq f),toks:=t'}:=by
 have q:=PySem.IsL.update e f;rw[hf] at q;refine I.write (x:=l) (e:=l) (by rw[hH];exact trivial) (.inl U) (λb' u hb hu=>(Heap.get?_update_other s.heap (Obj.mapSeq f) (Ne.symm hb)).trans hu) ⟨_,q⟩ ?_;exact⟨hz,its',_,hv,q⟩
def Inv.lnew {its:List Value} {t':Nat} (I:Inv X c d H s) (hv:b7 ys its) (hz:ys.length<=sizeLine) :
 Inv X c d (upd H s.heap.objs.size (.lst ys)) {s with heap:=s.heap.push {cls:=.type "list",data:=.seq its.toArray},toks:=t'} :=
 I.laid (λ_ _ q=>hpS _ q) ?M ⟨hz,its,0,hv,Heap.get?_push_size _ U⟩
def Inv.fresh (I:Inv X c d H s):H s.heap.objs.size=none:=I.hok.fresh ?M
def Inv.lstM (I:Inv X c d H s) (a:H l=some (.lst xs)):xs.length<=sizeLine/\∃ (its:List Value) (n:Nat),b7 xs its/\xs.length=its.length/\s.heap.get? l=some {cls:=.type "list",data:=.seq its.toArray n}:=by
 obtain⟨z,its,n,r,e⟩:=I.hok l _ a;exact⟨z,its,n,r,r.length,e⟩
def li (h:n<=sizeLine):Builtin.List.listTooLong n=false:=by
 unfold Builtin.List.listTooLong;exact decide_eq_false (by lia)
end
section
variable {X:Cx}
inductive FH (x:V) (vs:List V) (H:Hp) (Q:VK):Prop
  | mk (l:Addr) (xs:List V) (y:V) (h1:x=.ref l) (h2:vs=[y]) (h3:H l=some (.lst xs)) (h4:xs.length<sizeLine) (q:Q .non (upd H l (.lst (xs++[y])))):FH x vs H Q
def rX:V->List V->Hp->VK->Prop:=λx vs H Q=>FH x vs H Q
def mz:MtM X "list.append" rX:=by
 intro b s σ H x m v j Q I f d h;obtain⟨l,k,y,rfl,rfl,c,o,q⟩:=h;cases f;obtain⟨u,rfl,g⟩:=d.one;obtain⟨z,a,n,r,i,e⟩:=I.lstM c;refine call_meets F.slot_list_append ⟨_,e,U⟩ F.entry_list_append (F.args_list_append_2 _ _) (PySem.list_append l a.toArray n u (by rw[List.size_toArray];lia)) ⟨e,?_⟩;refine⟨.non,_,I.lset c e ?B (r.append (.cons g .nil)) ?_,U,q⟩;rw[lAp,List.length_singleton];lia
def rV:V->List V->Hp->VK->Prop:=λx vs H Q=>∃ l b xs zs,x=.ref l/\vs=[.ref b]/\H l=some (.lst xs)/\H b=some (.lst zs)/\xs.length+zs.length<=sizeLine/\Q .non (upd H l (.lst (xs++zs)))
def uj:MtM X "list.extend" rV:=by
 intro g s L H x J v A Q I t y h;obtain⟨l,b,D,E,rfl,rfl,i,m,C,q⟩:=h;cases t;obtain⟨u,rfl,p⟩:=y.one;cases p;obtain⟨z,a,n,r,G,e⟩:=I.lstM i;obtain⟨B,d,j,k,w,o⟩:=I.lstM m;have f:a.toArray.size+d.toArray.size<=sizeLine:=by rw[List.size_toArray,List.size_toArray];lia
 have c:¬ (!a.toArray.isEmpty&&Builtin.List.listTooLong (a.toArray.size+d.toArray.size))=true:=by
  rw[li f,Bool.and_false];exact Bool.false_ne_true
 refine call_meets F.slot_list_extend ⟨_,e,U⟩ F.entry_list_extend (F.args_list_extend_2 _ _)
  (AutoSeq1.list_extend_list_list_0 l a.toArray n b d.toArray j c (by rw[List.size_toArray];lia) (by lia)) ⟨e,o,?_⟩
 refine⟨.non,_,I.lset i e ?B (r.append k) ?_,U,q⟩;rw[lAp];lia
def E3:V->List V->Hp->VK->Prop:=λx vs H Q=>∃ l xs y,x=.ref l/\vs=[]/\H l=some (.lst xs)/\xs[xs.length-1]?=some y/\Q y (upd H l (.lst xs.dropLast))
def BY:MtM X "list.pop" E3:=by
 intro f s σ H x t v p Q I m i h;obtain⟨l,w,y,rfl,rfl,d,g,q⟩:=h;cases m;have c:=i.zero;subst c;obtain⟨z,a,n,r,o,e⟩:=I.lstM d;obtain⟨u,j,k⟩:=r.get g;have b:a.toArray[a.toArray.size-1]?=some u:=by
  show a.toArray[a.length-1]?=some u;rw[<- Array.getElem?_toList,<- o];exact j
 refine call_meets F.slot_list_pop ⟨_,e,U⟩ F.entry_list_pop (F.args_list_pop_1 _) (MeetsSeq.list_pop_last l a.toArray n u b (by rw[List.size_toArray];lia)) ⟨e,?_⟩;refine⟨y,_,I.lset d e ?_ r.dropLast ?_,k,q⟩
 · grind
 · rw[List.length_dropLast];lia
def Gw:R2:=λx y H Q=>∃ l k xs,x=.ref l/\y=.int k/\H l=some (.lst xs)/\-(2 ^ 63)<=k/\k<2 ^ 63/\xs.length*k.toNat<=sizeLine /\
  ∀ p,H p=none->Q (.ref p) (upd H p (.lst (List.replicate k.toNat xs).flatten))
def zu {α:Type} (xs:List α) (k:Nat):(List.replicate k xs).flatten.length=k*xs.length:=by simp_all
def BJ:OpR X (binaryOp .Mult) Gw:=by
 intro j s S H x y v u Q I A p h;obtain⟨l,k,L,rfl,rfl,D,B,G,i,q⟩:=h;cases A;obtain⟨t,rfl⟩:=p;obtain⟨z,b,n,r,o,e⟩:=I.lstM D;have d:b.toArray.size*k.toNat<=sizeLine:=by rw[List.size_toArray,<- o];exact i
 have g:¬ b.toArray.size*k.toNat>(2 ^ 63-1) / 8:=by
  have:sizeLine<=(2 ^ 63-1) / 8:=by decide
  lia
 have E:¬ (!Builtin.List.listFitsIndex k)=true:=by
  rw[fitsIndex_both B G];exact Bool.false_ne_true
 have c:¬ Builtin.List.listTooLong (b.toArray.size*k.toNat)=true:=by
  rw[li d];exact Bool.false_ne_true
 have f:List.foldl (λO w=>O++w) #[] (List.replicate (if b.toArray.isEmpty=true then 0 else k.toNat) b.toArray)=(List.replicate k.toNat b).flatten.toArray:=by
  have C:=λm=>by
   have:=mE b m [];rw[List.nil_append] at this;exact this
  rw[C];cases b with
  | nil=>simp
  | cons a K=>rw[if_neg ?B]
 refine wpAny_binaryOp_repeat_ref ?G ⟨_,e,U⟩ (λR=>typeIs_int R k t) noFill_list_mul F.fills_int_mul F.slot_int_rmul repeat_list F.slot_int_index.lookup
  (call_meets F.slot_int_rmul (typeIs_int s k t) F.entry_int_rmul (F.args_int_rmul_2 _ _) (int___rmul___int_list k t l b.toArray n)
    ⟨e,U,⟨_,e,U⟩,call_meets F.slot_list_mul ⟨_,e,U⟩ F.entry_list_mul (F.args_list_mul_2 _ _) (AutoListH.list___mul___list_int_3 l b.toArray n k t E g c) ⟨e,?_⟩⟩)
 rw[f];exact⟨.ref _,_,I.lnew (r.rep k.toNat) (by rw[zu,Nat.mul_comm];exact i),U,q _ I.fresh⟩
end
end L2
namespace Att
open PySem PySem.W PySem.Calls PyProof.Rows
def ka:∀ (c:List Int) (d:List Value),WellAll P h d (c.map WData.int)->IntsAre d c:=by
 intro c
 induction c with
 | nil =>
  intro d w;rw[List.map_nil] at w;cases w;exact .nil
 | cons n c e =>
  intro d w;rw[List.map_cons] at w;cases w with
  | cons a b =>
   cases a;exact .cons _ _ (e _ b)
def u4 {l:OpenLaw} (u:l.most=some n) 
 (c:l.row.toRowW.claim.pre args=true) (i:WellAll P h A args):
 ∃ a k b,A=[Value.ref a]/\args=[WData.list (b.map WData.int)]/\h.get? a=some {cls:=.type "list",data:=.seq k.toArray}/\IntsAre k b/\b.length<=n:=by
 have j:=(pre_splitW c).1;have m:l.pre.holds [] {args:=args}=true:=(pre_splitW c).2;obtain⟨d,r,rfl,s,x⟩:=hasAllW_cons j;obtain rfl:=hasAllW_nil x;obtain⟨y,rfl,p⟩:=hasW_list s;obtain⟨b,rfl⟩:=items_int p;have e:b.length<=n:=by
  unfold OpenLaw.pre at m;have f:(WTm.not (.lt (.lit (.int n)) (.len (.arg 0)))).holds [] {args:=[.list (b.map .int)]}=true:=by
   have f:=(holds_andW m).1;rw[u] at f;exact f
  have g:=condW_of f (w_not (w_lt w_lit (w_len_list (w_arg U))));rw[lMp] at g;refine Nat.le_of_not_lt λq=>?_;have w:n<((b.length:Nat)):=by lia
  first
   | (rw[decide_eq_true w] at g;exact absurd g (by decide))
   | (simp at g;lia)
 cases i with
 | cons t v =>
  cases v;cases t with
  | list o q=>exact⟨_,_,b,U,U,o,ka b _ q,e⟩
def ub (l:OpenLaw) (args:List WData):l.row.toRowW.claim.post args (.bool true) args=true :=
 postW_of
  (show WShape.has [] (.bool true) .bool=true by first | rfl | decide | simp[WShape.has,WShape.arms,WShape.armsAll])
  (show (WTm.eq .res (.lit (.bool true))).value [] {args:=args,res:=some (.bool true),after:=args}=some (.bool (true==true)) from w_eq_bool (w_res U) w_lit) rfl
def attach_call {l:OpenLaw} 
 (R:l.most=some n) (y:d.params.defaults=[])
 (call:∀ (w:World) (c b:Shared) (s A:SOV) (m:Addr) (o:Obj) (x t g:Value) (a:Addr) (h:List Value) (u:List Int),
 Ground q loose [] XP w c s A b.heap->YP w b.heap ->
 b.heap.get? m=some o->o.data=.func (docDef d.name d.params d.body d.scope x t g)->b.heap.CodeRec t d.name->s d.name=some (.ref m) ->
 b.heap.get? a=some {cls:=.type "list",data:=.seq h.toArray}->IntsAre h u->u.length<=n->b.gens=#[] ->
 codeAny (model l.prog w) callerA (.call (.ref m) ⟨[.ref a],[]⟩) (λr p=>r=.ok (.ret (.bool true))/\OldK b.heap p.heap/\p.os=b.os/\AllBare p.gens) b):
 WalkO q loose XP YP l.row.toRowW d [] (λf h=>PySem.call f h):=by
 intro w c b s A G Y m o x t g K kV N F L E z Q C B T k D H v P;obtain rfl:K=.none:=Dflts.none E y;obtain rfl:kV=.none:=Dflts.noKw E;obtain⟨a,h,u,rfl,rfl,j,e,i⟩:=u4 R k v;refine enter_call (codeAny_mono (call w c b s A m o x t g a h u G Y N (fd_plain F) L z j e i Q) λr p I=>?_);obtain⟨rfl,S,O,J⟩:=I;exact⟨.inl ⟨.bool true,.bool true,[],U,λ_=>rfl,.bool true,ub l _,λ_=>⟨List.Pairwise.nil,λ_ M=>(nomatch M)⟩⟩,S,O,J⟩
end Att
namespace L2
open PySem PySem.Spec PyProof.Rows
def tR:∀ {b:List Value} {a:List Int},IntsAre b a->b7 (a.map V.int) b:=by
 intro b a h
 induction h with
 | nil=>exact .nil
 | cons n t h c=>exact .cons ⟨t,U⟩ c
def Cy (H:Hp):Prop:=∀ b,H b=none\/∃ o xs,H b=some (.frz o (.lst xs))
def wL {P:Program} {w:World} {K:Fg} {C W:SOV} {CX:CXT} {k:Nat} {Y a:Addr} {fd:FuncData} {x:Str} {sp:Sp} {c:Shared} {A:List Value} {D:List Int}
 (KX:K.In c.heap) (E:c.heap.Ns mainGlobals C) (i:c.heap.Ns builtinsNs W) (Z:∀ x:Str,x≠"__name__"->W x=bootBuiltins x) (G:c.heap.NoLimit) (hg:c.gens=#[])
 (T:c.heap.get? a=some {cls:=.type "list",data:=.seq A.toArray}) (hi:IntsAre A D) (hl:D.length<=sizeLine) (hr:fH k callerA)
 (F:∀ j:Heap,K.In j->j.Ns mainGlobals C->ib P w K C j CX k Y fd [x] sp) (B:∀ (s:Shared) (u:Value),BindsTo s fd ⟨[u],[]⟩ [(x,u)])
 (hsp:∀ H:Hp,Cy H->SqL K H a (D.map V.int)->sp [.ref a] H (λv _=>v=.bl true) λ_ _ _=>False)
 (hCX:∀ H e l,CX [] H c (λ_ _ _=>False) e l->False) :
 codeAny (model P w) callerA (.call (.ref Y) ⟨[.ref a],[]⟩) (λr l=>r=.ok (.ret (.bool true))/\OldK c.heap l.heap/\l.os=c.os/\AllBare l.gens) c:=by
 have rv:=tR hi;have J:=hi.length;have y:∀ H:Hp,Cy H->SqL K H a (D.map V.int)->HOk P w H c.heap->(∀ b,H b≠none->b=a)->(H a≠none->K.lookup a=none) ->
  codeAny (model P w) callerA (.call (.ref Y) ⟨[.ref a],[]⟩) (λr l=>r=.ok (.ret (.bool true))/\OldK c.heap l.heap/\l.os=c.os/\AllBare l.gens) c:=by
  intro H hO hS L hA hK;have g:∀ {b:Addr} {o:Obj},c.heap.get? b=some o->H b=none->(nR c.heap H).get? b=some o:=λe n=>wY e n;have noA:∀ {b:Addr} {o:Obj} {M:Array DictEntry} {N:Nat},c.heap.get? b=some o->o.data=.dict M N->H b=none:=λ{b o M N} e d=>by
   cases q:H b with
   | none=>rfl
   | some u =>
    have e':b=a:=hA b (by rw[q];simp);subst e';rw[T] at e;cases e;have d':Data.seq A.toArray _=Data.dict M N:=d;cases d'
  have p:∀ {b:Addr} {m:SOV},c.heap.Ns b m->(nR c.heap H).Ns b m:=λ{b m} ⟨o,M,N,e,d,r⟩=>⟨o,M,N,g e (noA e d),d,r⟩;have O:K.In (nR c.heap H):=λb o e=>g (KX b o e) (by
    cases q:H b with
    | none=>rfl
    | some u =>
      have e':b=a:=hA b (by rw[q];simp);subst e';rw[hK (by rw[q];simp)] at e;cases e)
  have hM:Mod K C (nR c.heap H):=⟨O,p E,⟨W,p i,Z⟩,let ⟨mc,h1,h2⟩:=G;⟨mc,p h1,h2⟩⟩;have e0:Ab P w K C (nR c.heap H) callerA [] c H:=⟨U,hM,λb o e=>zn e,Nat.le_of_eq (ux _ _),trivial,λb i=>absurd (show b∈([]:List Addr) from i) ?B,L,.of_eq hg⟩;refine codeAny_mono ((F _ O (p E)).run callerA [] c H ⟨[.ref a],[]⟩ [.ref a] [.ref a] _ _ hr e0 (B c (.ref a)) (.cons U .nil) (hsp H hO hS)) λr l h=>?_;cases r with
  | error e=>exact (hCX H e l h).elim
  | ok fl =>
   cases fl with
   | next=>exact False.elim h
   | brk=>exact False.elim h
   | cont=>exact False.elim h
   | ret u =>
    obtain⟨v,H',os,Q,un,R,r',q⟩:=h;have q':v=.bl true:=q;subst q';obtain rfl:u=Value.bool true:=r';refine⟨U,OldK.of_keep λb o e=>?_,os,Q⟩;cases q:H b with
    | none=>exact un.keep b o e q (by intro z;exact absurd (show b∈([]:List Addr) from z) ?B) ?B
    | some u =>
     rcases hO b with z | ⟨ob,xs,z⟩
     · rw[q] at z;cases z
     · have z2:=un.frzs b ob _ z;obtain⟨e1,_⟩:=L b _ z;obtain⟨e2,_⟩:=R b _ z2;rw[e] at e1;cases e1;exact e2
 cases hk:K.lookup a with
 | some o =>
  have e:=KX a o hk;rw[T] at e;cases e;refine y (λ_=>none) (λ_=>.inl U) (.inr ⟨_,A.toArray,_,hk,U,U,U,by rw[List.size_toArray,J];exact hl,by simpa using rv⟩) (λb u z=>by have S:(none:Option HO)=some u:=z;cases S) (λb z=>absurd U z) λz=>absurd rfl z
 | none =>
  refine y (λb=>if b=a then some (.frz {cls:=.type "list",data:=.seq A.toArray} (.lst (D.map V.int))) else none) (λb=>?_) (.inl (.inr ⟨{cls:=.type "list",data:=.seq A.toArray},if_pos U⟩)) (λb u z=>?_) (λb z=>?_) λ_=>hk
  · by_cases i:b=a
    · exact .inr ⟨_,_,if_pos i⟩
    · exact .inl (if_neg i)
  · by_cases i:b=a
    · have S:=(if_pos i).symm.trans z;cases S;subst i;exact⟨T,by rw[lMp];exact hl,A,_,rv,T⟩
    · have S:=(if_neg i).symm.trans z;cases S
  · by_cases i:b=a
    · exact i
    · exact absurd (if_neg i) z
abbrev KOf {K:Fg} {h:Heap} (_:K.In h):Fg:=K
def rD {l:PySem.W.OpenLaw} {K:Params->Fg} {CX:World->CXT} {sp:World->Sp} 
 (Z:l.most=some n) (A:n<=sizeLine) (B:d.params.defaults=[]) (hr:fH k callerA)
 (Q:∀ (w:World) (h:Heap),YP w h->(K w.params).In h)
 (F:∀ (w:World) (m:SOV) (t:Addr) (h:Heap),(K w.params).In h->h.Ns mainGlobals m->m d.name=some (.ref t) ->
 ∃ E:FuncData,(∀ (s:Shared) (u:Value),BindsTo s E ⟨[u],[]⟩ [(x,u)]) /\
 ∀ c:Heap,(K w.params).In c->c.Ns mainGlobals m->ib l.prog w (K w.params) m c (CX w) k t E [x] (sp w))
 (z:∀ (w:World) (H:Hp) (a:Addr) (y:List Int),y.length<=n->Cy H->SqL (K w.params) H a (y.map V.int)->sp w [.ref a] H (λv _=>v=.bl true) λ_ _ _=>False)
 (D:∀ (w:World) (H:Hp) (s:Shared) (e:Value) (s':Shared),CX w [] H s (λ_ _ _=>False) e s'->False):
 PySem.W.WalkO q loose XP YP l.row.toRowW d [] (λf I=>PySem.call f I):=by
 refine Att.attach_call Z B λw J p m mb t o pm cd P a I y G Y ho hd Jt C r j i S=>?_;have L:=Q w _ Y;obtain⟨E,R,M⟩:=F w m t _ L G.T.g C;exact wL L G.T.g G.T.b G.T.builtins G.T.nolimit S r j (Nat.le_trans i A) hr M R (λH O N=>z w H a y i O N) λH e s'=>D w H p e s'
abbrev CX0:CXT:=λ_ _ _ _ _ _=>False
abbrev E0:XK:=λ_ _ _=>False
def E9:rn CX0 X E0:=λ_ _ _ _ _ _ _ h=>h.elim
structure Fun (K:Fg) (x qual:Str) (st:Stmt) (f:Addr) (fd:FuncData):Prop where
  ex:∃ (oc:Value) (od:Option Addr) (kV doc pm:Value) (an:Option Addr) (kb ct:Value) (osl:Array (Option Value)),
    fd=PySem.W.fnOf x qual (du st) (bW st) (ad st) .none kV doc pm an kb ct/\K.lookup f=some ⟨oc,od,.func fd,osl⟩/\PySem.W.codeIn K kb qual=true
  kp:PySem.W.keepIn K (.ref f)=true
section
variable {P:Program} {w:World} {K:Fg} {y:SOV} {base:Heap}
def Fun.ok {st:Stmt} (F:Fun K x qual st f fd) (S:aM N ps (ad st)) (len:∀ c H Q E,sp c H Q E->c.length=ps.length)
 (b:∀ (d:Value) (A:Around) (a:List Env) (s:Shared) (H:Hp) (c:List V) (Q:VK) (E:XK),fH k (A.deeper (envOfC qual (ad st) s.heap.objs.size f d))->sp c H Q E ->
 ∃ t,PSs (iF CX0 P w K y base N qual (ad st) f d A a s H E).nox (bW st) t/\t {nx:=λ_ m=>Q .non m,rt:=Q} (start N c) H):ib P w K y base CX0 (k+1) f fd ps sp:=by
 obtain⟨o,r,kV,i,v,u,d,p,l,rfl,n,g⟩:=F.ex;refine Ff n g S len λA a s H c Q E j e=>?_;obtain⟨t,h,q⟩:=b d A a s H c Q E j e;exact⟨t,h.nox,q⟩
def Fun.binds {st:Stmt} (F:Fun K x qual st f fd)
 (h:∀ (kV a g:Value) (d:Option Addr) (e c:Value) (b:List Value),b.length=ps.length->bindArgs (PySem.W.fnOf x qual (du st) (bW st) (ad st) .none kV a g d e c) ⟨b,[]⟩=pure (ps.zip b)):mT K fd ps []:=by
 obtain⟨j,k,kV,a,g,d,e,c,i,rfl,m,l⟩:=F.ex;exact .all (h kV a g d e c)
def wZ {st:Stmt} {kV a g b d:Value} (l:K.lookup f=some ⟨i,j,.func (PySem.W.fnOf x qual (du st) (bW st) (ad st) .none kV a g h b d),e⟩)
 (c:PySem.W.codeIn K b qual=true) (k:PySem.W.keepIn K (.ref f)=true):Fun K x qual st f (PySem.W.fnOf x qual (du st) (bW st) (ad st) .none kV a g h b d):=⟨⟨i,j,kV,a,g,h,b,d,e,U,l,c⟩,k⟩
end
def dN (a:fH k A):A.units+1<cLine:=Nat.lt_of_le_of_lt (Nat.add_le_add_left (by decide:1<=64) _) a.units
section
variable {X:Cx}
def pv (i:Nat) {x:Str} {pos:Pos} (hN:X.N[i]?=some x:=by rfl) (hv:Vis X.env.scope x:=by first | exact Or.inl U | exact Or.inr ?D | exact Or.inr (Or.inr U)) (hd:(x==("__debug__":Str))=false:=by decide)
 (Jt:(x==("__classdict__":Str))=false:=by decide):PE X (.Name x pos) (cw i):=BC hN hv hd Jt
end
def aP {A B:Prop} (h:B):if false=true then A else B:=by
 rw[if_neg Bool.false_ne_true];exact h
def aJ {A B:Prop} (h:A):if true=true then A else B:=by
 rw[if_pos U];exact h
def aA (H H':Hp):Prop:=∀ b o,H b=some o->H' b=some o
def aA.refl (H:Hp):aA H H:=λ_ _ h=>h
def aA.trans (a:aA H H1) (b:aA H1 H2):aA H H2:=λc o h=>b c o (a c o h)
end L2
def eG {P:Prop} (h:∀ G:Prop,(P->G)->G):P:=h P id
set_option maxHeartbeats 4000000
namespace L2
open PySem PySem.Spec PyProof.Rows
def blk (X:Cx) (sc:Scope) (cl:List (Str×Addr)) (N':List Str) (fp:List Addr) (pins:AOs) (s:Shared) (H:Hp):Cx where
  prog:=X.prog
  w:=X.w
  K:=X.K
  mg:=X.mg
  base:=X.base
  A:=X.A
  N:=N'
  s₀:=s
  H₀:=H
  env:=compEnvC sc cl s.heap.objs.size X.env
  outer:=X.stack
  stack:=X.stack
  ex:=fp
  fn:=λ_=>false
  calm:=X.calm
  pn:=X.pn++pins
  xe:=λ_ _=>False
def cz (cells:List (Str×Addr)):List (Str×NameKind)->List (Str×Addr)->List (Str×Addr)
  | [],acc=>acc
  | (n,k)::r,acc=>cz cells r (if k==.free then (match cells.lookup n with | some c=>(n,c)::acc | none=>acc) else acc)
def qd (cells:List (Str×Addr)):∀ (ns:List (Str×NameKind)) (acc:List (Str×Addr)),(∀ x c,(x,c)∈acc->cells.lookup x=some c)->∀ x c,(x,c)∈cz cells ns acc->cells.lookup x=some c
 | [],acc,h,x,c,m=>h x c m
 | (n,k)::r,acc,h,x,c,m=>by
  unfold cz at m;refine qd cells r _ (λy d q=>?_) x c m;split at q
  · split at q
    · rename_i c' e
      rcases List.mem_cons.mp q with z | z
      · cases z;exact e
      · exact h y d z
    · exact h y d q
  · exact h y d q
def qe (cells:List (Str×Addr)):∀ (ns:List (Str×NameKind)) (acc:List (Str×Addr)) (x:Str) (c:Addr),(x,c)∈acc->∃ d,(x,d)∈cz cells ns acc
 | [],acc,x,c,m=>⟨c,m⟩
 | (n,k)::r,acc,x,c,m=>by
  unfold cz;refine qe cells r _ x c ?_;split
  · split
    · exact mCM _ m
    · exact m
  · exact m
def lD (cells:List (Str×Addr)):∀ (ns:List (Str×NameKind)) (acc:List (Str×Addr)) (x:Str) (c:Addr),(x,NameKind.free)∈ns->cells.lookup x=some c->∃ d,(x,d)∈cz cells ns acc
 | [],acc,x,c,m,e=>by cases m
 | (n,k)::r,acc,x,c,m,e=>by
  rcases List.mem_cons.mp m with z | z
  · cases z;unfold cz;refine qe cells r _ n c ?_;rw[if_pos ?G,e];exact mCS
  · unfold cz;exact lD cells r _ x c z e
def ix:∀ {l:List (Str×Addr)} {x:Str} {c:Addr},(x,c)∈l->∃ d,l.lookup x=some d
 | (y,d)::r,x,c,m=>by
  by_cases h:x=y
  · subst h;exact⟨d,by simp[List.lookup_cons]⟩
  · rcases List.mem_cons.mp m with z | z
    · cases z;exact absurd U h
    · obtain⟨d',e⟩:=ix z;refine⟨d',?_⟩;have:(x==y)=false:=by simpa using h
      simp[List.lookup_cons,this,e]
def jT (d:Env):∀ (g:List (Str×NameKind)) (b:List (Str×Addr)),(∀ y∈g,y.2=.free->∃ c,d.cells.lookup y.1=some c) ->
 (forIn (m:=Sem) g b λ(x:Str×NameKind) r=>if (x.2==.free)=true then (do let a <- cellOf d x.1;pure (ForInStep.yield ((x.1,a)::r))) else pure (ForInStep.yield r))=pure (cz d.cells g b)
 | [],b,_=>rfl
 | (n,k)::r,b,h=>by
  rw[List.forIn_cons];have j:=λb=>jT d r b λy o=>h y (mCM _ o);unfold cz;by_cases l:k=.free
  · subst l;obtain⟨c,e⟩:=h (n,.free) mCS rfl;have p:d.cells.lookup n=some c:=e;simp only[cellOf,p,beq_self_eq_true,if_true,pure_bind];exact j _
  · have q:(k==NameKind.free)=false:=by simpa using l
    simp only[q,Bool.false_eq_true,if_false,pure_bind];exact j _
def lC (h:∀ y∈sc.names,y.2=.free->∃ c,env.cells.lookup y.1=some c):closureFor sc env=pure (cz env.cells sc.names []):=by
 have q:=jT env sc.names [] h;unfold closureFor
 first
  | (rw[show (forIn sc.names [] _)=_ from q];rfl)
  | (simp only[bind_pure];exact q)
  | exact q
section
variable {X:Cx} {t:AOs} {A:St} {H:Hp} {s:Shared}
def gQ {sc:Scope} (e:(?W).lookup x=some c):X.env.cells.lookup x=some c :=
 qd _ _ _ (λ_ _ m=>by cases m) x c (PySem.mem_of_lookup e)
def il (k:Nat) (outs:List (Nat×Str)) (A:St):St:=List.replicate k none++outs.map λp=>(A[p.1]?).getD none
def dI (own:List Str) (outs:List (Nat×Str)):List Str:=own++outs.map (·.2)
structure aG (X:Cx) (sc:Scope) (own:List Str) (outs:List (Nat×Str)):Prop where
  kind:sc.kind=.function
  nocell:∀ y∈sc.names,y.2≠.cell
  loc:∀ y∈sc.names,y.2=.local->sc.names.lookup y.1=some .local
  fr:∀ y∈sc.names,y.2=.free->X.env.kindOf y.1=some .cell\/X.env.kindOf y.1=some .free
  outNo:∀ p∈outs,(relabel sc X.env).names.lookup p.2≠some .local
  outN:∀ p∈outs,X.N[p.1]?=some p.2/\(X.env.scope.names.lookup p.2=some .cell\/X.env.scope.names.lookup p.2=some .free)
def iy {α:Type}:∀ {l:List (Str×α)} {x:Str} {k:α},l.lookup x=some k->(x,k)∈l
 | (y,d)::r,x,k,e=>by
  by_cases h:x=y
  · subst h;simp[List.lookup_cons] at e;subst e;exact mCS
  · have:(x==y)=false:=by simpa using h
    simp[List.lookup_cons,this] at e;exact mCM _ (iy e)
 | [],x,k,e=>by simp at e
def fI (f:∀ y∈sc.names,y.2≠.cell) (g:k=.cell\/k=.free) (e:(relabel sc env).names.lookup x=some k):(x,NameKind.free)∈sc.names:=by
 have m:=iy e;unfold relabel at m;obtain⟨⟨n,a⟩,b,d⟩:=List.mem_map.mp m;by_cases c:(a==NameKind.free&&env.scope.kind==.function&&env.kindOf n==some .cell)=true
 · grind
 · grind
def sK {sc:Scope} {own:List Str} {outs:List (Nat×Str)} {L:List Addr} {h':Heap} {t':Nat} (I:Inv X t A H s) (S:aG X sc own outs) (G:∀ b∈L,jd X t H b) (M:∀ b∈L,b<s.heap.objs.size)
 (hn:h'.Ns s.heap.objs.size λ_=>none) (C:∀ b o,s.heap.get? b=some o->h'.get? b=some o) :
 Inv (blk X sc ?W (dI own outs) L t s H) [] (il own.length outs A) H {s with heap:=h',toks:=t'}:=by
 have h:∀ y∈sc.names,y.2=.free->∃ c,X.env.cells.lookup y.1=some c:=λy hy e=>I.ok.has y.1 (S.fr y hy e);have D:∀ b,b<s.heap.objs.size->b≠s.heap.objs.size:=λb j=>Nat.ne_of_lt j;refine⟨⟨I.mod,?_,I.ok.glob,I.ok.blt,Nat.le_refl _,λx y c N g=>I.ok.inj x y c (gQ N) (gQ g),λx hx=>?_,λx c z _=>absurd z Bool.false_ne_true,I.ok.hd,I.ok.frames,.inl U,λb j=>⟨D b (M b j),λx c e=>(G b j).2.2.2.2.1 x c (gQ e)⟩,I.bs,
     Nat.le_trans I.ok.bsz I.sz,λb o e j=>?_,λb j z=>?_,I.stack,I.stkFree⟩,U,I.bare,Un.kept C,⟨_,hn,λi x v N g e3=>?_⟩,λx c e=>?_,I.hok.fresh ?M,λx c e=>I.freeC x c (gQ e),λp hp=>?_,I.hok.kept C,?_⟩
 · exact S.kind
 · have J:(x,NameKind.free)∈sc.names:=by
    rcases hx with e | e
    · exact fI S.nocell (.inl U) e
    · exact fI S.nocell (.inr U) e
   obtain⟨c,e⟩:=h (x,.free) J rfl;obtain⟨d,m⟩:=lD X.env.cells sc.names [] x c J e;exact ix m
 · rcases (G b j).2.2.2.1 with z | z
   · exact I.ok.noex b o e z
   · exact absurd (Nat.lt_of_lt_of_le (Heap.lt_size e) (Nat.le_trans I.ok.bsz z)) (Nat.lt_irrefl _)
 · rcases List.mem_cons.mp (I.stkSub b z) with e | e
   · exact (G b j).2.1 e
   · exact (G b j).2.2.1 e
 · 
   have e2':i<(il own.length outs A).length:=(gES.mp g).1;by_cases Z:i<own.length
   · unfold il at g;rw[List.getElem?_append_left (by simpa using Z),List.getElem?_replicate] at g;split at g <;> cases g
   · have E:own.length<=i:=Nat.not_lt.mp Z;unfold il at g;rw[List.getElem?_append_right (by simpa using E),List.length_replicate,gEM] at g;have a:(dI own outs)[i]?=some x:=N;unfold dI at a;rw[List.getElem?_append_right E,gEM] at a;cases q:outs[i-own.length]? with
     | none=>rw[q] at a;cases a
     | some p =>
      rw[q] at a g;have ex:p.2=x:=Option.some.inj a;have K:(A[p.1]?).getD none=some v:=Option.some.inj g;have O:A[p.1]?=some (some v):=by
       cases z:A[p.1]? with
       | none=>rw[z] at K;cases K
       | some o=>rw[z] at K;exact congrArg some K
      obtain⟨hN,w⟩:=S.outN p (mGE q);rw[ex] at hN w;obtain⟨m,_,hl⟩:=I.loc;obtain⟨u,r,l⟩:=hl p.1 x v hN O (w.elim (λz=>.inr (.inl z)) λz=>.inr (.inr z));refine⟨u,r,?_⟩
      rcases l with ⟨k,_⟩ | ⟨_,c,ec,z⟩
      · have k':X.env.scope.names.lookup x=some .local:=k
        rcases w with y | y <;> (rw[k'] at y;cases y)
      · have F:(relabel sc X.env).names.lookup x=some .local\/(relabel sc X.env).names.lookup x=some .cell\/(relabel sc X.env).names.lookup x=some .free:=e3;have zc:h'.IsCell c (some u):=by
         obtain⟨o,P,Q⟩:=z;exact⟨o,C c o P,Q⟩
        rcases F with y | y
        · 
          exact absurd y (λy=>S.outNo p (mGE q) (by rw[ex];exact y))
        · have J:(x,NameKind.free)∈sc.names:=by
           rcases y with e | e
           · exact fI S.nocell (.inl U) e
           · exact fI S.nocell (.inr U) e
          obtain⟨d,md⟩:=lD X.env.cells sc.names [] x c J ec;obtain⟨d',ed⟩:=ix md;have e0:=gQ (X:=X) (sc:=sc) ed;rw[ec] at e0;have R:c=d':=Option.some.inj e0;subst R;exact .inr ⟨y,c,ed,zc⟩
 · obtain⟨v,o,P,Q⟩:=I.cell x c (gQ e);exact⟨v,o,C c o P,Q⟩
 · have T:p∈X.pn++t:=by
    rcases mAp.mp hp with z | z
    · exact z
    · cases z
   obtain⟨e,n,ne,nf,d⟩:=I.pin p T;refine⟨C p.1 p.2 e,n,D p.1 (Heap.lt_size e),λz=>?_,d⟩
   rcases List.mem_cons.mp (I.stkSub p.1 z) with y | y
   · exact ne y
   · exact nf y
 · show (il own.length outs A).length=(dI own outs).length;unfold il dI;simp
end
abbrev nQ (ifs:List Expr) (env:Env):Sem Bool :=
  forIn ifs true λc r=>if r=true then do let ok <- isTrue c env (eval c env);pure (ForInStep.yield ok) else pure (ForInStep.yield r)
def oz (X:Cx) (ifs:List Expr) (t:TT):Prop :=
  ∀ (pins:AOs) (s:Shared) (σ:St) (H:Hp) (Q:Bool->Hp->Prop),Inv X pins σ H s->t σ H Q->wpAny ?N X.A (nQ ifs X.env) (TP X pins σ Q) X.xe s
def yB:TT:=λ_ H Q=>Q true H
def bC:oz X [] yB:=λpins s σ H Q I h=>wpAny_tests_nil ⟨H,I,h⟩
def bM (b:PT X c t):oz X [c] t:=λpins s σ H Q I h=>wpAny_tests_one (b pins s σ H Q I h)
def wJ (J:Nat->Shared->Prop)
 (a:∀ n s,J n s->wpAny ?L A (pyNext G) (λr j=>(r=none/\R (.ok .next) j)\/∃ v,r=some v /\
 wpAny ?L A (letOwnedTupleGo o G v) (λ_ p=>wpAny ?L A (assign o C v) (λ_ l=>wpAny ?L A (nQ i C) (λD d =>
 (D=false/\∃ m,m<n/\J m d)\/(D=true/\wpAny ?L A (eval E C) (λx k=>wpAny ?L A (call (.builtin "list.append") [F,x]) (λ_ q=>∃ m,m<n/\J m q) (λ_ _=>False) k) (λ_ _=>False) d))
 (λ_ _=>False) l) (λ_ _=>False) p) (λ_ _=>False) j) (λ_ _=>False) s)
 (n:Nat) (h:J n s):codeAny ?L A (.compLoop (.ListComp E [⟨o,H,i,0⟩] sc I) 0 G F C) R s:=by
 refine codeAny_loop U J (λn s t=>?_) n h;refine wpAny_noted ?_;rw[compTurn_list];refine wB (wpAny_standAt (wB (wpAny_mono (a n s t) (λr j b=>?_) λ_ _ f=>f.elim)))
 rcases b with ⟨g,b⟩ | ⟨v,g,b⟩
 · subst g;exact wP b
 · subst g;refine wB (wpAny_mono b (λ_ p B=>?_) λ_ _ f=>f.elim);refine wB (wpAny_mono B (λ_ l u=>?_) λ_ _ f=>f.elim);refine wB (wpAny_mono u (λD d c=>?_) λ_ _ f=>f.elim)
   rcases c with ⟨e,c⟩ | ⟨e,c⟩
   · subst e;exact wP ⟨U,c⟩
   · subst e;refine wB (wB (wpAny_mono c (λx k y=>?_) λ_ _ f=>f.elim));exact wB (wpAny_mono y (λ_ q z=>wP (wP ⟨U,z⟩)) λ_ _ f=>f.elim)
def tLC (wi:TI) (k:Nat) (outs:List (Nat×Str)) (g:TG) (tc:TT) (te:TE):TE:=λσ H Q=>wi σ H λJ H1=>∀ D,H1 D=none ->
  ∃ W:Nat->Nat->St->Hp->Prop,(∃ m,W 0 m (il k outs σ) (upd H1 D (.lst [])))/\∀ i m σ' H',W i m σ' H' ->
    (J.stop i H'/\Q (.ref D) H')\/(J.go i H'/\∃ N:St->Hp->Prop,(∀ σ2 H2,N σ2 H2->∃ m',m'<m/\W (i+1) m' σ2 H2)/\∀ x H2,J.yld i H' x H2->g x σ' H2 λσ3 H3=>tc σ3 H3 λb H4 =>
      if b=true then te σ3 H4 λv H5=>∃ ys,H5 D=some (.lst ys)/\ys.length<sizeLine/\N σ3 (upd H5 D (.lst (ys++[v]))) else N σ3 H4)
set_option maxHeartbeats 8000000 in
def sF {X:Cx} {elt tg iter:Expr} {ifs:List Expr} {sc:Scope} {pos gt:Pos} {wi:TI} {g:TG} {tc:TT} {te:TE} {own:List Str} {outs:List (Nat×Str)} {use:Option (Value->Sem Unit)} {PQ:VSP} {pins:AOs} {s:Shared} {σ:St} {H:Hp} {Q:VK} (hc:X.calm=true) (S:aG X sc own outs) (hi:PI X tg iter wi)
 (hb:∀ (fp:List Addr) (pins:AOs) (s:Shared) (H:Hp),PG ?Aa tg g /\
   oz ?Aa ifs tc/\PE ?Aa elt te)
 (hs:∀ x,foldedSetIterable iter X.env x=pure x) (I:Inv X pins σ H s) (h:tLC wi own.length outs g tc te σ H Q)
 (fin:∀ (D c:Addr) (m6:SOV) (H5:Hp) (s6:Shared),Inv X pins σ H5 s6->s6.heap.Ns c m6->H5 c=none->X.env.locals≠c->X.s₀.heap.objs.size<=c->(∀ x c',X.env.cells.lookup x=some c'->c'≠c)->(∀ p∈X.pn++pins,p.1≠c)->Q (.ref D) H5 ->
   compPost ?N X.A X.xe use PQ (.ref D) c (.ok .next) s6) :
 wpAny ?N X.A (comprehension (.ListComp elt [⟨tg,iter,ifs,0⟩] sc pos) sc X.env gt (newList []) false (eval iter X.env) use) PQ X.xe s:=by
 have Io:closureFor sc X.env=pure ?W:=lC λy hy e=>I.ok.has y.1 (S.fr y hy e);refine wpAny_comprehension_free (use:=use) rfl hs Io S.kind S.loc (thn (hi pins s σ H _ I h) λv s1 h1=>thn h1 λitv s2 h2=>?_);obtain⟨it,fp,tn,J,H2,e,I2,T,Ks,f2,h2⟩:=h2;subst e;refine wpAny_newObj_type ?_;generalize hD:s2.heap.objs.size=D;have fr:H2 D=none:=by rw[<- hD];exact I2.fresh
 obtain⟨W,⟨m0,w0⟩,turn⟩:=h2 D fr;have I3:Inv X pins σ (upd H2 D (.lst [])) {s2 with heap:=s2.heap.push {cls:=.type "list",data:=.seq ([]:List Value).toArray}}:=by
  have q:=I2.lnew (t':=s2.toks) (ys:=[]) (its:=[]) .nil (Nat.zero_le _);rw[hD] at q;exact q
 have Ky:∀ b∈fp,b<s2.heap.objs.size:=λb hb=>by
  obtain⟨o,e,_⟩:=T.obj _ _ Ks b hb;exact Heap.lt_size e
 have f3:∀ b∈fp,jd X pins (upd H2 D (.lst [])) b:=λb hb=>⟨by rw[ai (by rw[<- hD];exact Nat.ne_of_lt (Ky b hb))];exact (f2 b hb).1,(f2 b hb).2⟩;generalize hS:({s2 with heap:=s2.heap.push {cls:=.type "list",data:=.seq ([]:List Value).toArray}}:Shared)=s3 at I3;have k3:∀ b o,s2.heap.get? b=some o->s3.heap.get? b=some o:=λb o e=>by rw[<- hS];exact hpS _ e
 have z3:s2.heap.objs.size<=s3.heap.objs.size:=by rw[<- hS];show _<=(s2.heap.push _).objs.size;rw[Heap.size_push];exact Nat.le_succ _
 have st3:tn 0 s3.heap:=T.keep _ _ _ Ks λb _ o e=>k3 b o e;refine wpAny_newFunctionEnv S.nocell (λy hy=>by cases hy) (λh4 hn4 sb4=>?_) S.kind;have k4:∀ b o,s3.heap.get? b=some o->h4.get? b=some o:=λb o e=>sb4.extBut b o (Nat.ne_of_lt (Heap.lt_size e)) (hpS _ e);have hn4':h4.Ns s3.heap.objs.size λ_=>none:=by
  have q:=hn4;simp only[List.reverse_nil,List.lookup_nil] at q;exact q
 have I4:=sK (t':=s3.toks+([]:List (Str×Value)).length) I3 S f3 (λb hb=>Nat.lt_of_lt_of_le (Ky b hb) z3) hn4' k4;have st4:tn 0 h4:=T.keep _ _ _ st3 λb _ o e=>k4 b o e;obtain⟨hg,KE,he⟩:=hb fp pins s3 (upd H2 D (.lst []));generalize hY:blk X sc ?W (dI own outs) fp pins s3 (upd H2 D (.lst []))=Y at I4 hg KE he;have yenv:Y.env=compEnvC sc ?W s3.heap.objs.size X.env:=by rw[<- hY];rfl
 have statY:∀ {H':Hp},(∀ b∈fp,H' b=none)->∀ b∈fp,jd Y [] H' b:=λ{H'} hn b hb=>by
  subst hY;obtain⟨_,a1,a2,a3,a4,a5⟩:=f3 b hb;refine⟨hn b hb,Nat.ne_of_lt (Nat.lt_of_lt_of_le (Ky b hb) z3),λz=>?_,.inl hb,λx c e=>a4 x c (gQ e),λp hp=>?_⟩
  · rcases List.mem_cons.mp (I3.stkSub b z) with y | y
    · exact a1 y
    · exact a2 y
  · rcases mAp.mp hp with z | z
    · exact a5 p z
    · cases z
 have loop:codeAny ?N X.A (.compLoop (.ListComp elt [⟨tg,iter,ifs,0⟩] sc pos) 0 (.ref it) (.ref D) Y.env) (compPost ?N X.A X.xe use PQ (.ref D) s3.heap.objs.size)
  {s3 with heap:=h4,toks:=s3.toks+([]:List (Str×Value)).length}:=by
  have hP:Y.prog=X.prog:=by rw[<- hY];rfl
  have hw:Y.w=X.w:=by rw[<- hY];rfl
  have hA:Y.A=X.A:=by rw[<- hY];rfl
  have hK:Y.K=X.K:=by rw[<- hY];rfl
  have KH:Y.xe=λ_ _=>False:=by rw[<- hY];rfl
  have Jg:Y.calm=true:=by rw[<- hY];exact hc
  rw[<- hP,<- hw,<- hA];rw[<- hP,<- hw,<- hK] at T;refine wJ (λn s'=>∃ i σ' H',Inv Y [] σ' H' s'/\tn i s'.heap/\(∀ b∈fp,H' b=none)/\W i n σ' H') ?_ m0 ⟨0,_,_,I4,st4,λb hb=>(f3 b hb).1,w0⟩;rintro n s5 ⟨i,σ5,H5,I5,JZ,Kq,w5⟩
  rcases turn i n σ5 H5 w5 with ⟨stop,q⟩ | ⟨go,N,hN,step⟩
  · refine thn (T.done Y U U U Jg i [] s5 σ5 H5 _ I5 (statY Kq) JZ stop) λr s6 zz97=>?_;obtain⟨hr,I6⟩:=zz97;refine .inl ⟨hr,?_⟩;obtain⟨m6,hn6,_⟩:=I6.loc;have yl:Y.env.locals=s3.heap.objs.size:=by rw[yenv];rfl
    have u6:Un (frs X.stack) fp (upd H2 D (.lst [])) H5 s3.heap s6.heap:=by
     have q:=I6.base;subst hY;exact q
    have I7:Inv X pins σ H5 s6:=by
     refine I3.call' (s':=s6) (ch:=fp) ?_ u6 ?_ I6.bare λb hb=>?_
     · have q:=I6.os;subst hY;exact q
     · intro a o e;have q:=I6.hok a o e;subst hY;exact q
     · obtain⟨_,a1,a2,a3,a4,a5⟩:=f3 b hb;exact⟨a3,a1,a4,a5⟩
    rw[hP,hw,hA];ext g
  · refine thn (T.item Y U U U Jg i [] s5 σ5 H5 _ I5 (statY Kq) JZ go) λr s6 zz98=>?_;obtain⟨u,hr,h6⟩:=zz98;refine .inr ⟨u,hr,?_⟩;refine thn h6 λ_ s7 zz99=>?_;obtain⟨x,H7,I7,r7,y7,Ko,fr7⟩:=zz99;have I7':=I7.pinned (statY fr7) (T.obj _ _ Ko);have pinsOk:∀ {σ8:St} {H8:Hp} {s8:Shared},Inv Y ([]++js fp s7.heap) σ8 H8 s8->N σ8 H8->∃ m,m<n/\∃ i σ' H',Inv Y [] σ' H' s8/\tn i s8.heap/\(∀ b∈fp,H' b=none)/\W i m σ' H':=λ{σ8 H8 s8} I8 n8=>by
     obtain⟨m',hm,w8⟩:=hN σ8 H8 n8;refine⟨m',hm,i+1,σ8,H8,I8.unpinned,T.keep _ _ _ Ko λb hb o e=>(I8.pin (b,o) (List.mem_append_right _ (List.mem_append_right _ (dZ hb e)))).1,λb hb=>?_,w8⟩;obtain⟨o,e,d⟩:=T.obj _ _ Ko b hb;exact (I8.pin (b,o) (List.mem_append_right _ (List.mem_append_right _ (dZ hb e)))).2.1
    have toF:∀ {α:Type} {t:Sem α} {Q':α->Shared->Prop} {s':Shared},wpAny (model Y.prog Y.w) Y.A t Q' Y.xe s'->wpAny (model Y.prog Y.w) Y.A t Q' (λ_ _=>False) s':=λ{α t Q' s'} z=>wpAny_mono z (λ_ _ a=>a) λ_ _ a=>by rw[KH] at a;exact a
    ext p;cases ok with
    | false =>
     rw[if_neg Bool.false_ne_true] at q9;exact .inl ⟨U,pinsOk I9 q9⟩
    | true =>
     rw[if_pos U] at q9;refine .inr ⟨U,toF (thn (he _ s9 σ8 H9 _ I9 q9) λy s10 zz102=>?_)⟩;obtain⟨v,JY,I10,r10,ys,hy,hz,K5⟩:=zz102;have ap:=mz (X:=Y) _ s10 σ8 JY (.ref D) [v] (.ref D) [y] (λ_ H'=>N σ8 H') I10 rfl (.cons r10 .nil) ⟨D,ys,v,U,U,hy,hz,K5⟩;refine toF (thn ap λ_ s11 zz103=>?_);obtain⟨_,JO,I11,_,n11⟩:=zz103;exact pinsOk I11 n11
 rw[yenv] at loop;refine codeAny_compStart_list ?_ (T.self _ 0 _ _ _ st4 ?_)
 · exact loop
 · exact loop
def cO (v:X.calm=true) (S:aG X sc own outs) (hi:PI X j iter wi)
 (f:∀ (d:List Addr) (a:AOs) (s:Shared) (H:Hp),PG (blk X sc ?W (dI own outs) d a s H) j g /\
 oz (blk X sc ?W (dI own outs) d a s H) i tc/\PE (blk X sc ?W (dI own outs) d a s H) elt te)
 (w:∀ x,foldedSetIterable iter X.env x=pure x:=by intro _;rfl):PE X (.ListComp elt [⟨j,iter,i,0⟩] sc pos) (tLC wi own.length outs g tc te):=by
 intro a s σ H Q I h;rw[eval_ListComp];exact sF v S hi f w I h λD c k y z r p l m sz u n q=>⟨k,p,λh7 t=>⟨.ref D,y,r.turned (λb o f e=>(t.2 b f).trans e) l m.symm (.inr sz) u n,U,q⟩⟩
def Itx (x:Str):It:=⟨λi _=>i<x.cps.size,λi H v H'=>H'=H/\∃ c,x.cps.toList[i]?=some c/\v=.str ⟨#[c]⟩,λi _=>x.cps.size<=i⟩
def vj {P:Program} {w:World} {K:Fg} {tg:Expr} {C:String} (F:C="str_ascii_iterator"\/C="str_iterator") (g:Addr) (x:Str) (t:Tok):kh P w K tg (Itx x) [g] g (λi h=>h.IsStrIter g C x t i) where
 mem:=by simp
 obj:=λi h f b l=>by
  have e:b=g:=by simpa using l
  ext n
 keep:=λi h m f k=>by
  obtain⟨o,e,r⟩:=f;exact⟨o,k g ?B o e,r⟩
 item:=by
  intro X S T W Y i j s Z H E I G f hg;subst S T W;obtain⟨J,L,f2,M,N,O⟩:=G g ?B;have q:i<x.cps.size:=hg;have hx:x.cps[i]?=some x.cps[i]:=by simp[q]
  have IG:x.cps.toList[i]?=some x.cps[i]:=by simp[q]
  have D:∀ (m:Heap) u (Q:Nat),m.IsStrIter g C x t (i+1)->Heap.SameBut g s.heap m ->
   ∃ v,some (Value.str ⟨#[x.cps[i]]⟩ u)=some v/\wpAny ?N X.A (letOwnedTupleGo tg (.ref g) v) (λ_ s2=>∃ y H',Inv X j Z H' s2/\bh y v/\(Itx x).yld i H y H'/\s2.heap.IsStrIter g C x t (i+1)/\∀ b∈[g],H' b=none) E {s with heap:=m,toks:=Q}:=λm u Q a p=>by
   have I1:Inv X j Z H {s with heap:=m,toks:=Q}:=I.turned (λb o l e=>(p.2 b l).trans e) J L M N O;obtain⟨o,e,c,d⟩:=id a;refine⟨_,U,pb (s:={s with heap:=m,toks:=Q}) e c d ?_ ⟨.str ⟨#[x.cps[i]]⟩,H,I1,⟨u,U⟩,⟨U,_,IG,U⟩,a,λb l=>(G b l).1⟩⟩
   rcases F with z | z <;> (subst z;decide)
  rcases F with z | z
  · subst z;exact wpAny_pyNext_ascii_item f hx λm a p=>D m _ _ a p
  · subst z;exact wpAny_pyNext_wide_item f hx λm a p=>D m _ _ a p
 done:=by
  intro X S T W Y i j s Z H E I G f hg;subst S T W;obtain⟨J,L,f2,M,N,O⟩:=G g ?B;have q:x.cps.size<=i:=hg
  rcases F with z | z
  · subst z;exact wpAny_pyNext_ascii_end (I.ok.hd Y) f (by simp[q]) λm eb=>⟨U,I.turned (t':=s.toks) (λb o l e=>eb b o l e) J L M N O⟩
  · subst z;exact wpAny_pyNext_wide_end (I.ok.hd Y) f (by simp[q]) λm eb=>⟨U,I.turned (t':=s.toks) (λb o l e=>eb b o l e) J L M N O⟩
 self:=λ_ _ _ _ _ f h=>by
  rcases F with z | z
  · subst z;exact wpAny_pyIter_striter_ascii f h
  · subst z;exact wpAny_pyIter_striter_wide f h
def F7 (tl:TE):TI:=λσ H R=>tl σ H λv H1=>∃ x,v=.str x/\R (Itx x) H1
def wm (v:PE X l B):PI X C l (F7 B):=by
 intro c s z H R I h;refine thn (v c s z H _ I h) λv a d=>?_;obtain⟨y,r,g,m,n⟩:=d;obtain⟨x,e,q⟩:=n;subst e;obtain⟨t,rfl⟩:=m;have i:∀ (o:Obj) (f:String),(f="str_ascii_iterator"\/f="str_iterator")->(a.heap.push o).IsStrIter a.heap.objs.size f x t 0->PIE X c z C R (.ref a.heap.objs.size) {a with heap:=a.heap.push o}:=λo f w p=>by
  refine⟨a.heap.objs.size,[a.heap.objs.size],_,_,r,U,g.kept λb o e=>hpS _ e,vj w _ x t,p,λb u=>?_,q⟩;have e:b=a.heap.objs.size:=by simpa using u
  subst e;exact g.fpOk ?M (g.hok.fresh ?M)
 cases k:x.cps.all (·<128)
 · exact wpAny_pyIter_wide k (i _ _ (.inr U) ⟨_,Heap.get?_push_size _ U,U,U⟩)
 · exact wpAny_pyIter_ascii k (i _ _ (.inl U) ⟨_,Heap.get?_push_size _ U,U,U⟩)
structure fF (J:It) (xs:List V) (Ok:Hp->Prop):Prop where
  go:∀ i H,Ok H->i<xs.length->J.go i H
  yld:∀ i H x H',J.go i H->Ok H->J.yld i H x H'->H'=H/\xs[i]?=some x
  stop:∀ i H,Ok H->xs.length<=i->J.stop i H
def bR {K:Fg} {a:Addr} {xs:List V}:fF (Itl K a) xs (λH=>SqL K H a xs) :=
 ⟨λi H q hi=>⟨xs,xs[i],q,by simp[hi]⟩,λi H x H' _ q y=>⟨y.1,y.2 xs q⟩,λi H q hi=>⟨xs,q,hi⟩⟩
def cq {K:Fg} {a:Addr} {xs:List V}:fF (Itt K a) xs (λH=>SqT K H a xs) :=
 ⟨λi H q hi=>⟨xs,xs[i],q,by simp[hi]⟩,λi H x H' _ q y=>⟨y.1,y.2 xs q⟩,λi H q hi=>⟨xs,q,hi⟩⟩
def sgn (c:Nat):V:=.str ⟨#[c]⟩
def qm:fF (Itx x) (x.cps.toList.map sgn) (λ_=>True) :=
 ⟨λi H _ a=>by show i<x.cps.size;simpa using a,λi H v f _ _ y=>by
   obtain⟨e,c,d,b⟩:=y;refine⟨e,?_⟩;rw[gEM,d,b];rfl,λi H _ a=>by show x.cps.size<=i;simpa using a⟩
def bN (lo:Int) (n:Nat):List V:=(List.range n).map λ(i:Nat)=>V.int (lo+(i:Int))
def bo {lo:Int}:fF (Itr lo n) (bN lo n) (λ_=>True) :=
 ⟨λi H _ a=>by show i<n;simpa [bN] using a,λi H v c b _ y=>by
   obtain⟨e,h⟩:=y;refine⟨e,?_⟩;have a:i<n:=b;rw[h];simp[bN,a],λi H _ a=>by show n<=i;simpa [bN] using a⟩
def Cg {J:It} {xs:List V} {l:Hp->Prop} (Y:fF J xs l) {g:TG} {n:TS} {D:iK} {a:St} {H:Hp} (c:Nat->St->Hp->Prop) (r:c 0 a H) (s:∀ i a H,i<=xs.length->c i a H->l H)
 (t:∀ i x a H,xs[i]?=some x->c i a H->g x a H λf k=>n {D with nx:=c (i+1),ct:=c (i+1),bk:=D.nx} f k) (z:∀ a H,c xs.length a H->D.nx a H) :
 ∃ W:Nat->Nat->St->Hp->Prop,(∃ m,W 0 m a H)/\∀ i m a H,W i m a H ->
  (J.stop i H/\D.nx a H)\/(J.go i H/\∃ N:St->Hp->Prop,(∀ h d,N h d->∃ o,o<m/\W (i+1) o h d)/\∀ x d,J.yld i H x d->g x a d λf k=>n {D with nx:=N,ct:=N,bk:=D.nx} f k):=by
 refine⟨λi m a H=>m=xs.length-i/\i<=xs.length/\c i a H,⟨xs.length,by simp,Nat.zero_le _,r⟩,?_⟩;rintro i m a H ⟨rfl,A,p⟩;have q:=s i a H A p;by_cases b:i<xs.length
 · refine .inr ⟨Y.go i H q b,c (i+1),λh d B=>⟨xs.length-(i+1),Nat.sub_succ_lt_self _ _ b,U,b,B⟩,λx d y=>?_⟩;obtain⟨e,C⟩:=Y.yld i H x d (Y.go i H q b) q y;subst e;exact t i x a _ C p
 · have e:i=xs.length:=by lia
   subst e;exact .inl ⟨Y.stop _ H q ?M,z a H p⟩
def zx {J:It} {xs:List V} {C:Hp->Prop} (Y:fF J xs C) {g:TG} {tc:TT} {te:TE} {Q:VK} {c:St} {l:Hp} {D:Addr} (S:l D=none) (p:V->Bool) (f:V->V) (hz:xs.length<=sizeLine) (n:∀ j,C (upd l D (.lst j)))
 (I:∀ (x:V) (k:St) (H:Hp) (R:V->St->Hp->Prop) (T:St->Hp->Prop),x∈xs->k.drop 1=c.drop 1->k.length=c.length->(∃ j,H=upd l D (.lst j))->(p x=true->∀ h,h.drop 1=c.drop 1->h.length=c.length->R (f x) h H)->(p x=false->∀ h,h.drop 1=c.drop 1->h.length=c.length->T h H) ->
   g x k H λd B=>tc d B λb r=>if b=true then te d r λv s=>R v d s else T d r)
 (K:Q (.ref D) (upd l D (.lst ((xs.filter p).map f)))) :
 ∃ W:Nat->Nat->St->Hp->Prop,(∃ m,W 0 m c (upd l D (.lst [])))/\∀ i m t q,W i m t q ->
  (J.stop i q/\Q (.ref D) q)\/(J.go i q/\∃ N:St->Hp->Prop,(∀ h w,N h w->∃ E,E<m/\W (i+1) E h w)/\∀ x w,J.yld i q x w->g x t w λd B=>tc d B λb r =>
    if b=true then te d r λv s=>∃ j,s D=some (.lst j)/\j.length<sizeLine/\N d (upd s D (.lst (j++[v]))) else N d r):=by
 refine⟨λi m k H=>m=xs.length-i/\i<=xs.length/\k.drop 1=c.drop 1/\k.length=c.length/\H=upd l D (.lst (((xs.take i).filter p).map f)),⟨xs.length,by simp,Nat.zero_le _,U,U,by simp⟩,?_⟩;rintro i m k H ⟨rfl,Z,L,M,rfl⟩;by_cases o:i<xs.length
 · refine .inr ⟨Y.go i _ (n _) o,λk H=>k.drop 1=c.drop 1/\k.length=c.length/\H=upd l D (.lst (((xs.take (i+1)).filter p).map f)),λt q O=>⟨xs.length-(i+1),Nat.sub_succ_lt_self _ _ o,U,o,O⟩,λx q y=>?_⟩;obtain⟨e,F⟩:=Y.yld i _ x q (Y.go i _ (n _) o) (n _) y;subst e;have P:x∈xs:=mGE F;have G:(xs.take (i+1)).filter p=(xs.take i).filter p++(if p x=true then [x] else []):=by
    rw[tAO,F,List.filter_append];cases z:p x <;> simp[z]
   have A:(((xs.take i).filter p).map f).length<sizeLine:=by
    rw[lMp];have h1:=List.length_filter_le p (xs.take i);have h2:(xs.take i).length<=i:=by rw[lTk];lia
    lia
   refine I x k _ (λv d s=>∃ j,s D=some (.lst j)/\j.length<sizeLine/\(d.drop 1=c.drop 1/\d.length=c.length/\upd s D (.lst (j++[v]))=upd l D (.lst (((xs.take (i+1)).filter p).map f))))
    (λd r=>d.drop 1=c.drop 1/\d.length=c.length/\r=upd l D (.lst (((xs.take (i+1)).filter p).map f))) P L M ⟨_,U⟩ (λz h a b=>⟨_,pF,A,a,b,?_⟩) (λz h a b=>⟨a,b,?_⟩)
   · rw[yx,G,if_pos z,List.map_append];rfl
   · rw[G,if_neg (by rw[z];exact Bool.false_ne_true),List.append_nil]
 · have e:i=xs.length:=by lia
   subst e;refine .inl ⟨Y.stop _ _ (n _) ?M,?_⟩;rw[List.take_length];exact K
def xO (F:X.calm=true):fZ X (.builtin "all") (λY H Q=>∃ (p:Addr) (d:List Bool),Y=[.ref p]/\SqL X.K H p (d.map V.bl)/\Q (.bl (d.all id)) H):=by
 intro B s Z H Y O Q I G h;obtain⟨p,d,rfl,L,q⟩:=h;obtain⟨u,rfl,D⟩:=G.one;cases D;obtain⟨f,r,n,T⟩:=I.list L;have w:X.A.in1.handled=none:=by
  have:=I.ok.hd F
  first | exact this | simpa using this
 refine call_all_walk (wpAny_pyIter_list n.isList ?_);have x:p≠s.heap.objs.size:=by
  obtain⟨o,E,_⟩:=n.isList;exact Nat.ne_of_lt (Heap.lt_size E)
 refine⟨s.heap.objs.size,_,_,_,_,_,λi=>(d[i]?).getD false,U,Walks.list w s.heap.objs.size p x f.toArray,⟨⟨_,Heap.get?_push_size _ U,U,U⟩,n.isList.extBut (λb o l e=>hpS _ e) (by exact x)⟩,?_,λh' tk C=>?_⟩
 · intro i v P R W N t;have z:f[i]?=some v:=by simpa using N
   have c:=r.length;have g:=(gES.mp z).1;have j:i<d.length:=by rw[<- c,lMp] at g;exact g
   have l:(d.map V.bl)[i]?=some (V.bl d[i]):=by simp[j]
   obtain⟨S,y,m⟩:=r.get l;rw[z] at y;cases y;cases (show v=Value.bool d[i] from m);refine wpAny_truthy_bool ?_
   simpa [j] using t
 · have J:(List.range f.toArray.size).all (λi=>(d[i]?).getD false)=d.all id:=by
    have c:=r.length;rw[lMp] at c;rw[List.size_toArray,<- c];rw[Bool.eq_iff_iff,List.all_eq_true,List.all_eq_true];constructor
    · intro h b l;obtain⟨i,g,e⟩:=List.mem_iff_getElem.mp l;have:=h i (List.mem_range.mpr g)
      simpa [g,e] using this
    · intro h i g;have k:=List.mem_range.mp g;have:=h d[i] (List.getElem_mem k)
      simpa [k] using this
   rw[J];refine⟨.bl _,H,?_,U,q⟩;refine I.kept λb o e=>C b o ?_ (hpS _ e);simp;exact Nat.ne_of_lt (Heap.lt_size e)
section
variable {X:Cx}
def yX:R2:=λx y H Q=>∃ i j,x=.str i/\y=.str j/\Q (.bl (!decide (j.cps.toList<i.cps.toList))) H
def mt:OpR X (compareOp .LtE) yX:=by
 intro a s σ H x y v u Q I b c h;obtain⟨i,j,rfl,rfl,q⟩:=h;obtain⟨t,rfl⟩:=b;obtain⟨d,rfl⟩:=c;exact PySem.P.le_str ⟨.bl _,H,I,U,q⟩
end
def dM {α:Type}:∀ {l:List α},l.length=1->∃ a,l=[a]:=by
 intro l h;cases l with
 | nil=>cases h
 | cons a r=>cases List.eq_nil_of_length_eq_zero (Nat.succ.inj h);exact⟨a,U⟩
def f8 {α:Type}:∀ {l:List α},l.length=2->∃ a b,l=[a,b]:=by
 intro l h;cases l with
 | nil=>cases h
 | cons a r=>obtain⟨b,rfl⟩:=dM (Nat.succ.inj h);exact⟨a,b,U⟩
def gG {α:Type}:∀ {l:List α},l.length=3->∃ a b c,l=[a,b,c]:=by
 intro l h;cases l with
 | nil=>cases h
 | cons a r=>obtain⟨b,c,rfl⟩:=f8 (Nat.succ.inj h);exact⟨a,b,c,U⟩
def qQ {α:Type}:∀ {l:List α},l.length=4->∃ a b c d,l=[a,b,c,d]:=by
 intro l h;cases l with
 | nil=>cases h
 | cons a r=>obtain⟨b,c,d,rfl⟩:=gG (Nat.succ.inj h);exact⟨a,b,c,d,U⟩
section
variable {CX:CXT} {P:Program} {w:World} {K:Fg} {mg:SOV} {base:Heap} {N:List Str} {q:Str} {sc:Scope} {f:Addr} {cd:Value} {A:Around} {outer:List Env} {s:Shared} {H:Hp} {E:XK}
def df:(iF CX P w K mg base N q sc f cd A outer s H E).nox.K=K:=rfl
end
structure Fn (P:Program) (w:World) (K:Fg) (mg:SOV) (base:Heap) (x:Str) (k:Nat) (ps:List Str) (sp:Sp):Prop where
  ex:∃ (f:Addr) (fd:FuncData),ib P w K mg base CX0 k f fd ps sp/\mg x=some (.ref f)/\PySem.W.keepIn K (.ref f)=true/\mT K fd ps []
def Def (K:Fg) (mg:SOV) (x:Str) (st:Stmt):Prop:=∃ (f:Addr) (fd:FuncData),Fun K x x st f fd/\mg x=some (.ref f)
section
variable {X:Cx} {x:Str} {p j:Pos} {e:Expr} {l:List Expr} {t:TA} {k:Nat} {ps:List Str} {m:Sp}
def aB (F:Fn X.prog X.w X.K X.mg X.base x k ps m) (c:fH k X.A) (a:Gl X x) (h:PA X (e::l) t) (hdb:(x==("__debug__":Str))=false:=by decide)
 (he:starEach (e::l) X.env=?U::starEach l X.env:=by rfl) (hpl:(backTo j (starEach l X.env)).any (·.1)=false:=by rfl):PE X (.Call (.Name x p) (e::l) [] j) (vt m [] E0 t):=by
 obtain⟨f,i,G,d,b,g⟩:=F.ex;exact ze G c a d b g .nil E9 h (hdb:=hdb) (he:=he) (hpl:=hpl)
end
section
variable {P:Program} {w:World} {K:Fg} {p:SOV} {base:Heap}
def Def.fn {st:Stmt} (D:Def K p x st) (S:aM N ps (ad st)) (len:∀ c H Q E,sp c H Q E->c.length=ps.length)
 (n:∀ (kV g m:Value) (o:Option Addr) (d h:Value) (e:List Value),e.length=ps.length->bindArgs (PySem.W.fnOf x x (du st) (bW st) (ad st) .none kV g m o d h) ⟨e,[]⟩=pure (ps.zip e))
 (b:∀ (f:Addr) (d:Value) (A:Around) (a:List Env) (s:Shared) (H:Hp) (c:List V) (Q:VK) (E:XK),fH k (A.deeper (envOfC x (ad st) s.heap.objs.size f d))->sp c H Q E ->
 ∃ t,PSs (iF CX0 P w K p base N x (ad st) f d A a s H E).nox (bW st) t/\t {nx:=λ_ l=>Q .non l,rt:=Q} (start N c) H):Fn P w K p base x (k+1) ps sp:=by
 obtain⟨f,i,F,j⟩:=D;exact⟨f,i,F.ok S len (b f),j,F.kp,F.binds n⟩
end
section
variable {X:Cx} {p y:Pos} {e:Expr} {w:List Expr} {t:TA}
def bq (c:X.mg "len"=none) (b:PA X (e::w) t) (a:Gl X "len":=by rfl)
 (he:starEach (e::w) X.env=?U::starEach w X.env:=by rfl) (hpl:(backTo y (starEach w X.env)).any (·.1)=false:=by rfl):PE X (.Call (.Name "len" p) (e::w) [] y) (tCB (Bz X.K) t):=fw oo a c PySem.boot_len b (he:=he) (hpl:=hpl)
def ym (c:X.mg "len"=none) (b:PA X (e::w) t) (a:Gl X "len":=by rfl)
 (he:starEach (e::w) X.env=?U::starEach w X.env:=by rfl) (hpl:(backTo y (starEach w X.env)).any (·.1)=false:=by rfl):PE X (.Call (.Name "len" p) (e::w) [] y) (tCB (λxs H Q=>∃ z,xs=[.str z]/\z.length<=sizeLine/\Q (.int z.length) H) t):=fw om a c PySem.boot_len b (he:=he) (hpl:=hpl)
def i8:bootBuiltins "int"=some (.type "int"):=by left
def cG:bootBuiltins "str"=some (.type "str"):=by left
def fE:bootBuiltins "bool"=some (.type "bool"):=by left
def xQ:bootBuiltins "all"=some (.builtin "all"):=by left
def kc:bootBuiltins "isinstance"=some (.builtin "isinstance"):=by left
def lI (b:X.mg "all"=none) (d:PA X (e::w) t) (c:X.calm=true:=by rfl) (a:Gl X "all":=by rfl)
 (he:starEach (e::w) X.env=?U::starEach w X.env:=by rfl) (hpl:(backTo y (starEach w X.env)).any (·.1)=false:=by rfl) :
 PE X (.Call (.Name "all" p) (e::w) [] y) (tCB (λxs H Q=>∃ (p:Addr) (bs:List Bool),xs=[.ref p]/\SqL X.K H p (bs.map V.bl)/\Q (.bl (bs.all id)) H) t):=fw (xO c) a b xQ d (he:=he) (hpl:=hpl)
def CK (d:X.mg "int"=none) (c:PA X (e::w) t) (b:Gl X "int":=by rfl)
 (he:starEach (e::w) X.env=?U::starEach w X.env:=by rfl) (hpl:(backTo y (starEach w X.env)).any (·.1)=false:=by rfl) :
 PE X (.Call (.Name "int" p) (e::w) [] y) (tCB (λxs H Q=>(∃ i,xs=[.int i]/\Q (.int i) H)\/∃ k,xs=[.bl k]/\Q (.int (if k then 1 else 0)) H) t):=i7 uP b d i8 c (he:=he) (hpl:=hpl)
def ic:∀ (k:Nat) (xs:List Str),b7 (xs.map V.str) (strsFrom k xs)
 | _,[]=>.nil
 | k,x::r=>.cons ⟨k,U⟩ (ic (k+1) r)
def vV:V->List V->Hp->VK->Prop:=λx vs H Q=>∃ a b,x=.str a/\vs=[.str b]/\(decide (a.length<b.length)||decide (Builtin.Str.strKind a<Builtin.Str.strKind b))=false/\(b.length==0)=false/\(Builtin.Str.occurrences a b 0 a.length (a.length+1)).isEmpty=false /\
  a.length<=sizeLine/\(Builtin.Str.partsBetween a (Builtin.Str.occurrences a b 0 a.length (a.length+1)) b.length).length<=sizeLine /\
  ∀ p,H p=none->Q (.ref p) (upd H p (.lst ((Builtin.Str.partsBetween a (Builtin.Str.occurrences a b 0 a.length (a.length+1)) b.length).map V.str)))
def wI:MtR X "str.split" vV:=by
 intro d s σ H x o v n Q I k m h;obtain⟨a,b,rfl,rfl,j,l,i,f,c,q⟩:=h;obtain⟨t,rfl⟩:=k;obtain⟨u,rfl,e⟩:=m.one;obtain⟨g,rfl⟩:=e;refine call_meets F.slot_str_split (typeIs_str _ _ _) F.entry_str_split (F.args_str_split_2 _ _) (meets_str_split_sep a b t g j l i f c) ?_;exact⟨.ref s.heap.objs.size,_,I.lnew (ic _ _) (by rw[lMp];exact c),U,q _ I.fresh⟩
variable {o:Expr} {j:TE} {k i:Pos}
def A9 (g:PE X o j) (h:PA X [e] t) (c:attributeBase o "split" X.env (eval o X.env)=eval o X.env:=by rfl) (b:(k.endLine==i.line)=true:=by rfl)
 (a:?Ae=true:=by rfl)
 (f:starEach [e] X.env=?U::starEach [] X.env:=by rfl) (d:(backTo i (starEach [] X.env)).any (·.1)=false:=by rfl) :
 PE X (.Call (.Attribute o "split" k) [e] [] i) (tBM X.K "str" vV j t):=sh PySem.F.plainAttrs_str PySem.F.slot_str_split PySem.F.type_str_split wI g h c a b f d
def dL (g:PE X o j) (h:PA X [e] t) (c:attributeBase o "append" X.env (eval o X.env)=eval o X.env:=by rfl) (b:(k.endLine==i.line)=true:=by rfl)
 (a:?Ae=true:=by rfl)
 (f:starEach [e] X.env=?U::starEach [] X.env:=by rfl) (d:(backTo i (starEach [] X.env)).any (·.1)=false:=by rfl) :
 PE X (.Call (.Attribute o "append" k) [e] [] i) (tBM X.K "list" rX j t):=sh PySem.F.plainAttrs_list PySem.F.slot_list_append PySem.F.type_list_append mz g h c a b f d
end
def eqL:List V->List V->Bool
  | [],[]=>true
  | x::r,y::q=>eqV x y&&eqL r q
  | _,_=>false
def Gz (K:Fg):R2:=λx y H Q=>∃ p q xs ys,x=.ref p/\y=.ref q/\p≠q/\SqL K H p xs/\SqL K H q ys/\xs.all fK=true/\ys.all fK=true/\Q (.bl (eqL xs ys)) H
def sQ:∀ {xs ys:List V},xs.length≠ys.length->eqL xs ys=false
 | [],[],h=>absurd rfl h
 | [],_::_,_=>rfl
 | _::_,[],_=>rfl
 | x::r,y::q,h=>by
  unfold eqL;rw[sQ (xs:=r) (ys:=q) (λe=>h (by simp[e])),Bool.and_false]
def uF:∀ {xs ys:List V},xs.length=ys.length->(List.range xs.length).all (λi=>eqV ((xs[i]?).getD .non) ((ys[i]?).getD .non))=eqL xs ys
 := by
  intro xs
  induction xs with
  | nil=>intro ys h;cases List.eq_nil_of_length_eq_zero h.symm;rfl
  | cons x r a =>
   intro ys h;cases ys with
   | nil=>cases h
   | cons y q =>
   have b:=a (by simpa using h);rw[List.length_cons,List.range_succ_eq_map,List.all_cons,List.all_map];unfold eqL;rw[<- b];rfl
def BM (hu:X.A.units+1<cLine):OpR X (compareOp .Eq) (Gz X.K):=by
 intro z s σ H x y v u Q I R Y h;obtain⟨p,q,c,b,rfl,rfl,Z,M,S,T,W,k⟩:=h;cases R;cases Y;obtain⟨a,l,t,z1⟩:=I.list M;obtain⟨d,m,n,z2⟩:=I.list S;have F:=l.length;have e2:=m.length;by_cases o:c.length=b.length
 · refine SeqAt.eq_listAt (e:=λi=>eqV ((c[i]?).getD .non) ((b[i]?).getD .non)) t.isList n.isList (by grind) (by lia) (λj w r=>?_) ?_
   · have f:j<c.length:=by rw[List.size_toArray] at w;lia
     have g:j<b.length:=by rw[List.size_toArray] at r;lia
     obtain⟨N,B,P⟩:=l.get (x:=c[j]) (i:=j) (by simp[f]);obtain⟨D,C,L⟩:=m.get (x:=b[j]) (i:=j) (by simp[g]);have G:a.toArray[j]=N:=by
      have:a[j]?=some a.toArray[j]:=by simp[w]
      rw[this] at B;exact Option.some.inj B
     have J:d.toArray[j]=D:=by
      have:d[j]?=some d.toArray[j]:=by simp[r]
      rw[this] at C;exact Option.some.inj C
     rw[G,J];have E:=List.all_eq_true.mp T _ (List.getElem_mem f);have O:fK b[j]=true:=List.all_eq_true.mp W _ (List.getElem_mem g);have:=xC (A:=X.A.in1) (s:=s) P L E O
     simpa [f,g] using this
   · rw[List.size_toArray,<- F,uF o];exact⟨.bl _,H,I,U,k⟩
 · refine SeqAt.eq_list_lengthsAt t.isList n.isList (by grind) (by lia) ?_;rw[sQ o] at k;exact⟨.bl false,H,I,U,k⟩
def aV (J:It) (g:TG) (a:TS) (D:iK) (σ:St) (H1:Hp):Prop:=∃ W:Nat->Nat->St->Hp->Prop,(∃ m,W 0 m σ H1)/\∀ i m σ H,W i m σ H ->
  (J.stop i H/\D.nx σ H)\/(J.go i H/\∃ N:St->Hp->Prop,(∀ σ' H',N σ' H'->∃ m',m'<m/\W (i+1) m' σ' H')/\∀ x H',J.yld i H x H'->g x σ H' λσ2 H2=>a {D with nx:=N,ct:=N,bk:=D.nx} σ2 H2)
def xT:BlR x H R=∃ k,x=.bl k/\R k H:=propext ⟨λh=>by obtain⟨v,a,b⟩:=h;exact⟨v,a,b⟩,λh=>by obtain⟨v,a,b⟩:=h;exact⟨v,a,b⟩⟩
def zC:CD x H R=∃ k,x=.int k/\R k H:=propext ⟨λh=>by obtain⟨v,a,b⟩:=h;exact⟨v,a,b⟩,λh=>by obtain⟨v,a,b⟩:=h;exact⟨v,a,b⟩⟩
@[simp] theorem Gr:D0 wi g a D σ H=wi σ H λJ b=>aV J g a D σ b:=rfl
def aV.by (Y:fF J xs Ok) (a:Nat->St->Hp->Prop) (h:a 0 σ H) (e:∀ i σ H,i<=xs.length->a i σ H->Ok H)
 (d:∀ i x σ H,xs[i]?=some x->a i σ H->g x σ H λσ2 c=>tb {D with nx:=a (i+1),ct:=a (i+1),bk:=D.nx} σ2 c) (b:∀ σ H,a xs.length σ H->D.nx σ H):aV J g tb D σ H:=Cg Y a h e d b
def bj (J:It) (g:TG) (tc:TT) (te:TE) (Q:VK) (σ0:St) (H1:Hp) (L:Addr):Prop :=
  ∃ W:Nat->Nat->St->Hp->Prop,(∃ m,W 0 m σ0 (upd H1 L (.lst [])))/\∀ i m σ' H',W i m σ' H' ->
    (J.stop i H'/\Q (.ref L) H')\/(J.go i H'/\∃ N:St->Hp->Prop,(∀ σ2 H2,N σ2 H2->∃ m',m'<m/\W (i+1) m' σ2 H2)/\∀ x H2,J.yld i H' x H2->g x σ' H2 λσ3 H3=>tc σ3 H3 λb H4 =>
      if b=true then te σ3 H4 λv H5=>∃ ys,H5 L=some (.lst ys)/\ys.length<sizeLine/\N σ3 (upd H5 L (.lst (ys++[v]))) else N σ3 H4)
@[simp] theorem bU:tLC wi k outs g tc te σ H Q=wi σ H λJ a=>∀ L,a L=none->bj J g tc te Q (il k outs σ) a L:=rfl
def bj.pure (Y:fF J xs Ok) (i:H1 L=none) (p:V->Bool) (f:V->V) (hz:xs.length<=sizeLine) (e:∀ d,Ok (upd H1 L (.lst d)))
 (j:∀ (x:V) (σ:St) (H:Hp) (R:V->St->Hp->Prop) (T:St->Hp->Prop),x∈xs->σ.drop 1=σ0.drop 1->σ.length=σ0.length->(∃ d,H=upd H1 L (.lst d))->(p x=true->∀ a,a.drop 1=σ0.drop 1->a.length=σ0.length->R (f x) a H)->(p x=false->∀ a,a.drop 1=σ0.drop 1->a.length=σ0.length->T a H) ->
 g x σ H λσ3 k=>tc σ3 k λb h=>if b=true then te σ3 h λv m=>R v σ3 m else T σ3 h)
 (l:Q (.ref L) (upd H1 L (.lst ((xs.filter p).map f)))):bj J g tc te Q σ0 H1 L:=zx Y i p f hz e j l
@[simp] theorem DX:il k outs σ=List.replicate k none++outs.map λp=>(σ[p.1]?).getD none:=rfl
section
variable {D:iK} {m:St} {H:Hp} {Q:VK} {R:Bool->Hp->Prop} {o q tc te:TE} {t u v:TT} {a b:TS} {x y:V} {i:Nat} {g:TG} {n:TA} {S:List V->Hp->Prop} {r s:R2}
@[simp] theorem Gh:Bj a b D m H=a {D with nx:=b D} m H:=rfl
@[simp] theorem FK:Ah D m H=D.nx m H:=rfl
@[simp] theorem dU:vw te g D m H=te m H λx a=>g x m a D.nx:=rfl
@[simp] theorem aL:cP i x m H N=N (m.set i (some x)) H:=rfl
@[simp] theorem gr:CV te D m H=te m H D.rt:=rfl
@[simp] theorem yT:Ai te D m H=te m H λ_ a=>D.nx m a:=rfl
@[simp] theorem nz:CZ t a b D m H=t m H λk c=>if k=true then a D m c else b D m c:=rfl
@[simp] theorem Gf:cw i m H Q=∃ v,m[i]?=some (some v)/\Q v H:=propext ⟨λh=>by obtain⟨v,a,b⟩:=h;exact⟨v,a,b⟩,λh=>by obtain⟨v,a,b⟩:=h;exact⟨v,a,b⟩⟩
@[simp] theorem HD:tC x m H Q=Q x H:=rfl
@[simp] theorem kU:tOp r o q m H Q=o m H λx a=>q m a λy b=>r x y b Q:=rfl
@[simp] theorem Hy:tIf t o q m H Q=t m H λc a=>if c=true then o m a Q else q m a Q:=rfl
@[simp] theorem nu:dA te m H R=te m H λx a=>∃ k,x=.bl k/\R k a:=congrArg (te m H) (funext λx=>funext λH1=>xT)
@[simp] theorem rR:tB te m H R=te m H λx a=>∃ k,x=.bl k/\R k a:=congrArg (te m H) (funext λx=>funext λH1=>xT)
@[simp] theorem DV:ng r s o q tc m H Q=o m H λx b=>q m b λy d=>r x y d λz a=>∃ k,z=.bl k/\(if k=true then tc m a λw' c=>s y w' c Q else Q (.bl false) a):=rfl
@[simp] theorem ny:yD t m H R=t m H λc a=>R (!c) a:=rfl
@[simp] theorem Gs:Bo t u m H R=t m H λc a=>if c=true then u m a R else R false a:=rfl
@[simp] theorem DT:tOr t u m H R=t m H λc a=>if c=true then R true a else u m a R:=rfl
@[simp] theorem FO:Ak o q m H Q=o m H λx a=>∃ c,x=.bl c/\if c=true then q m a Q else Q (.bl false) a:=rfl
@[simp] theorem Gj:CW o q m H Q=o m H λx a=>∃ c,x=.bl c/\if c=true then Q (.bl true) a else q m a Q:=rfl
@[simp] theorem FJ:Ag o m H Q=o m H λx a=>∃ c,x=.bl c/\Q (.bl (!c)) a:=rfl
@[simp] theorem Gk:lJ m H S=S [] H:=rfl
@[simp] theorem dq:gE te n m H S=te m H λx a=>n m a λxs b=>S (x::xs) b:=rfl
@[simp] theorem ie:tCB rr n m H Q=n m H λvs a=>rr vs a Q:=rfl
@[simp] theorem FN:vt sp dvs E n m H Q=n m H λvs a=>sp (vs++dvs) a Q E:=rfl
@[simp] theorem Gg:yC n m H Q=n m H λxs a=>xs.length<=sizeLine/\∀ p,a p=none->Q (.ref p) (upd a p (.tup xs)):=rfl
@[simp] theorem Gm:vn n m H Q=n m H λxs a=>xs.length<=sizeLine/\∀ p,a p=none->Q (.ref p) (upd a p (.lst xs)):=rfl
@[simp] theorem DW {K:Fg}:tBM K T rr te n m H Q=te m H λx a=>tyV K T x a/\n m a λxs b=>rr x xs b Q:=rfl
@[simp] theorem Hv:tSl rr te tl th m H Q=te m H λx a=>tl m a λl c=>th m c λu b=>rr x l u b Q:=rfl
@[simp] theorem fi:rJ m H O=O none H:=rfl
@[simp] theorem dD:Af te m H O=te m H λx a=>∃ i,x=.int i/\O (some i) a:=congrArg (te m H) (funext λx=>funext λH1=>zC)
@[simp] theorem Hw:rI C f x y H Q=∃ i j,x=.int i/\y=.int j/\C i j/\Q (f i j) H:=propext ⟨λh=>by obtain⟨i,j,a,b,c,d⟩:=h;exact⟨i,j,a,b,c,d⟩,λh=>by obtain⟨i,j,a,b,c,d⟩:=h;exact⟨i,j,a,b,c,d⟩⟩
@[simp] theorem Gi:rI0 f x y H Q=∃ i j,x=.int i/\y=.int j/\Q (f i j) H:=propext ⟨λh=>by obtain⟨i,j,a,b,c⟩:=h;exact⟨i,j,a,b,c⟩,λh=>by obtain⟨i,j,a,b,c⟩:=h;exact⟨i,j,a,b,c⟩⟩
@[simp] theorem Hz:rEq x y H Q=(yP x y=true/\Q (.bl (decide (x=y))) H):=rfl
@[simp] theorem Hx:rNe x y H Q=(yP x y=true/\Q (.bl (!decide (x=y))) H):=rfl
@[simp] theorem Gq {K:Fg}:oP K x y H Q=∃ p f i v,x=.ref p/\y=.int i/\SqL K H p f/\atI f i=some v/\Q v H:=propext ⟨λh=>by obtain⟨p,f,i,v,a,b,c,d,e⟩:=h;exact⟨p,f,i,v,a,b,c,d,e⟩,λh=>by obtain⟨p,f,i,v,a,b,c,d,e⟩:=h;exact⟨p,f,i,v,a,b,c,d,e⟩⟩
@[simp] theorem Go {K:Fg}:fN K x y H Q=∃ p f i v,x=.ref p/\y=.int i/\SqT K H p f/\atI f i=some v/\Q v H:=propext ⟨λh=>by obtain⟨p,f,i,v,a,b,c,d,e⟩:=h;exact⟨p,f,i,v,a,b,c,d,e⟩,λh=>by obtain⟨p,f,i,v,a,b,c,d,e⟩:=h;exact⟨p,f,i,v,a,b,c,d,e⟩⟩
@[simp] theorem Gp:Gy x y H Q=∃ z i c,x=.str z/\y=.int i/\z.length<=sizeLine/\atI z.cps.toList i=some c/\Q (.str ⟨#[c]⟩) H:=rfl
@[simp] theorem fq:yB m H R=R true H:=rfl
@[simp] theorem DS:start N vs=vs.map some++List.replicate (N.length-vs.length) none:=rfl
@[simp] theorem FI:Aw n m H RR=n m H λvs a=>∃ j:Int,vs=[.int j]/\-(2 ^ 62)<=j/\j<2 ^ 62/\RR (Itr 0 j.toNat) a:=rfl
@[simp] theorem DU {K:Fg}:wX K te m H RR=te m H λx b=>∃ a,x=.ref a/\(∃ c,SqL K b a c)/\RR (Itl K a) b:=rfl
@[simp] theorem FM:F7 te m H RR=te m H λv a=>∃ x,v=.str x/\RR (Itx x) a:=rfl
end
def aG.own {own:List Str} (k:sc.kind=.function) (h:(sc.names.all λy=>y.2==.local)=true) (l:∀ y∈sc.names,y.2=.local->sc.names.lookup y.1=some .local):aG X sc own []:=by
 have c:=λy a=>by simpa using List.all_eq_true.mp h y a
 refine⟨k,λy a e=>?_,l,λy a e=>?_,λp b=>(by cases b),λp b=>(by cases b)⟩
 · rw[c y a] at e;cases e
 · rw[c y a] at e;cases e
def nd1 (x:Str):[x].Nodup:=by simp
def unS:V->Nat
  | .str s=>s.cps.getD 0 0
  | _=>0
def rF (c:Nat):unS (sgn c)=c:=rfl
def pX (h:w L=none) (hz:z.length<=sizeLine) (p:Nat->Bool) (f:Nat->V)
 (j:∀ (c:Nat) (H:Hp) (R:V->Hp->Prop) (T:Hp->Prop),c∈z.cps.toList->(p c=true->R (f c) H)->(p c=false->T H)->tc [some (sgn c)] H λb d=>if b=true then te [some (sgn c)] d R else T d)
 (n:Q (.ref L) (upd w L (.lst ((z.cps.toList.filter p).map f)))):bj (Itx z) (cP 0) tc te Q [none] w L:=by
 refine bj.pure qm h (λv=>p (unS v)) (λv=>f (unS v)) (by simpa [Str.length] using hz) (λ_=>trivial) ?_ ?_
 · intro x y H R T m t g _ i l;obtain⟨c,q,rfl⟩:=List.mem_map.mp m;have a:∃ o,y=[o]:=by
    cases y with
    | nil=>cases g
    | cons o r=>cases List.eq_nil_of_length_eq_zero (Nat.succ.inj g);exact⟨o,U⟩
   obtain⟨o,rfl⟩:=a;exact j c H (λv s=>R v [some (sgn c)] s) (λd=>T [some (sgn c)] d) q (λu=>i (by rw[rF];exact u) _ U U) (λu=>l (by rw[rF];exact u) _ U U)
 · have e:(((z.cps.toList.map sgn).filter λv=>p (unS v)).map λv=>f (unS v))=(z.cps.toList.filter p).map f:=by
    rw[List.filter_map,List.map_map];congr 1
   rw[e];exact n
def sC (d:a.cps.toList=[x]) (c:b.cps.toList=[y]) (q:Q (.bl (decide (x<=y))) H):yX (.str a) (.str b) H Q:=by
 refine⟨_,_,U,U,?_⟩;have e:(!decide (b.cps.toList<a.cps.toList))=decide (x<=y):=by
  rw[d,c];by_cases h:x<=y
  · have:¬ ([y]<[x]):=by simp[List.cons_lt_cons_iff];lia
    simp[this,h]
  · have:[y]<[x]:=by simp[List.cons_lt_cons_iff];lia
    simp[this,h]
 rw[e];exact q
def uL {lo hi:Str} (e:lo.cps.toList=[a]) (d:hi.cps.toList=[b]) (q:R (.bl (decide (a<=c)&&decide (c<=b))) H):
 ng yX yX (tC (.str lo)) (cw 0) (tC (.str hi)) [some (sgn c)] H R:=by
 refine⟨_,U,sC e U ⟨_,U,?_⟩⟩;by_cases h:a<=c
 · rw[decide_eq_true h] at q ⊢;refine aJ (sC U d ?_);exact q
 · grind
def vY:R2:=λx y H Q=>∃ i j,x=.str i/\y=.str j/\Q (.bl (!(!(Builtin.Str.occurrences j i 0 j.length 1).isEmpty))) H
def zh:OpR X (compareOp .NotIn) vY:=nD
def zo (q:Q (.bl (!decide (c∈y.cps.toList))) H):vY (sgn c) (.str y) H Q:=by
 refine⟨_,_,U,U,?_⟩;rw[StrLaws.found_one];exact q
end L2
namespace L2
open PySem PySem.Spec PyProof.Rows PySem.SeqAt
mutual
inductive gX (K:Fg) (H:Hp):V->PyData->Prop
  | non:gX K H .non .none
  | bl (b:Bool):gX K H (.bl b) (.bool b)
  | int (i:Int):gX K H (.int i) (.int i)
  | str (x:Str):gX K H (.str x) (.str x)
  | lst {a:Addr} {xs:List V} {ds:PDs}:SqL K H a xs->ql K H xs ds->gX K H (.ref a) (.list ds)
  | tup {a:Addr} {xs:List V} {ds:PDs}:SqT K H a xs->ql K H xs ds->gX K H (.ref a) (.tuple ds)
inductive ql (K:Fg) (H:Hp):List V->PDs->Prop
  | nil:ql K H [] []
  | cons {x:V} {d:PyData} {xs:List V} {ds:PDs}:gX K H x d->ql K H xs ds->ql K H (x::xs) (d::ds)
end
section
variable {X:Cx} {pins:AOs} {B:St} {H:Hp} {s:Shared}
def gX.reads (I:Inv X pins B H s) (h:gX X.K H v d):∀ {u:Value},bh v u->∃ c,Reads s.heap u d c:=by
 refine gX.rec (motive_1:=λv d _=>∀ {u:Value},bh v u->∃ c,Reads s.heap u d c) (motive_2:=λG j _=>∀ {g:List Value},b7 G g->∃ c,ReadsAll s.heap g j c) ?_ ?_ ?_ ?_ ?_ ?_ ?_ ?_ h
 · intro u r;cases (show u=Value.none from r);exact⟨_,.none⟩
 · intro b u r;cases (show u=Value.bool b from r);exact⟨_,.bool b⟩
 · intro i u r;obtain⟨t,e⟩:=(show ∃ t,u=Value.int i t from r);rw[e];exact⟨_,.int i t⟩
 · intro x u r;obtain⟨t,e⟩:=(show ∃ t,u=Value.str x t from r);rw[e];exact⟨_,.str x t⟩
 · intro a G j z D l u r;cases r;obtain⟨k,w,p,E⟩:=I.list z;obtain⟨c,C⟩:=l w;obtain⟨o,m,q,n,f⟩:=p.isList;exact⟨_,.list m q f (by simpa using C)⟩
 · intro a G j z D l u r;cases r;obtain⟨k,w,p,E⟩:=I.tuple z;obtain⟨c,C⟩:=l w;obtain⟨o,m,q,n,f⟩:=p;exact⟨_,.tuple m q f (by simpa using C)⟩
 · intro g r;cases r;exact⟨_,.nil⟩
 · intro x d G j a b A F g r;cases r with
   | cons r t =>
    obtain⟨c,x⟩:=A r;obtain⟨N,y⟩:=F t;exact⟨_,.cons x y⟩
def GB (K:Fg):R2:=λx y H Q=>∃ d e,gX K H x d/\gX K H y e/\shaped d=true/\shaped e=true/\Q (.bl (PyData.eqv d e)) H
inductive Fu (K:Fg) (x y:V) (H:Hp) (Q:VK):Prop
  | mk (d e:PyData) (h1:gX K H x d) (h2:gX K H y e) (h3:shaped d=true) (h4:shaped e=true) (q:Q (.bl (!PyData.eqv d e)) H):Fu K x y H Q
def Gx (K:Fg):R2:=λx y H Q=>Fu K x y H Q
def BN (f:X.A.units+64<cLine):OpR X (compareOp .Eq) (GB X.K):=by
 intro a s B H x y v u Q I j b h;obtain⟨d,e,l,i,sd,g,q⟩:=h;obtain⟨m,k⟩:=l.reads I j;obtain⟨bs,c⟩:=i.reads I b;exact eq_dataH k c sd g f ⟨.bl _,H,I,U,q⟩
def nF (f:X.A.units+64<cLine):OpR X (compareOp .NotEq) (Gx X.K):=by
 intro a s B H x y v u Q I j b h;obtain⟨d,e,l,i,sd,g,q⟩:=h;obtain⟨m,k⟩:=l.reads I j;obtain⟨bs,c⟩:=i.reads I b;exact ne_dataH k c sd g f ⟨.bl _,H,I,U,q⟩
end
section
variable {K:Fg} {H b:Hp}
def aA.seqT (e:aA H b) (h:SqT K H a xs):SqT K b a xs:=by
 rcases h with (h | ⟨o,h⟩) | h
 · exact .inl (.inl (e _ _ h))
 · exact .inl (.inr ⟨o,e _ _ h⟩)
 · exact .inr h
end
def oD (d:St->Hp->Prop) (μ:St->Hp->Nat) (h:d σ H)
 (i:∀ σ H,d σ H->c σ H λb f=>if b=true then ∃ N:St->Hp->Prop,(∀ a e,N a e->∃ g,g<μ σ H/\(g=μ a e/\d a e))/\tb {D with nx:=N,ct:=N,bk:=D.nx} σ f else D.nx σ f):vm c tb D σ H:=by
 refine⟨λm σ H=>m=μ σ H/\d σ H,⟨_,U,h⟩,?_⟩;rintro m σ H ⟨rfl,p⟩;exact i σ H p
end L2
namespace L2
open PySem PySem.Spec PyProof.Rows
section
variable {X:Cx} {p f:Pos} {e:Expr} {t:TA} {o:Expr} {to:TE} {HR gt:Pos}
def rf:bootBuiltins "list"=some (.type "list"):=by left
def jU:bootBuiltins "tuple"=some (.type "tuple"):=by left
def CJ (c:X.mg "list"=none) (b:PA X (e::es) t) (d:Gl X "list":=by rfl)
 (he:starEach (e::es) X.env=?U::starEach es X.env:=by rfl) (hpl:(backTo f (starEach es X.env)).any (·.1)=false:=by rfl):
 PE X (.Call (.Name "list" p) (e::es) [] f) (tCB (λxs H Q=>∃ p a,xs=[.ref p]/\(SqL X.K H p a\/SqT X.K H p a)/\∀ l,H l=none->Q (.ref l) (upd H l (.lst a))) t):=i7 oj d c rf b (he:=he) (hpl:=hpl)
end
@[simp] theorem C7:∀ a:List Str,(Txt.join ("":Str) a).cps.toList=(a.map λy=>y.cps.toList).flatten:=by
 intro a;have e:("")=Str.empty:=by left
 rw[e];have key:∀ a:List Str,(Str.join Str.empty a).cps.toList=(a.map λy=>y.cps.toList).flatten:=by
  intro a
  induction a with
  | nil=>rfl
  | cons y r b =>
   cases r with
   | nil=>simp[Str.join]
   | cons c d =>
    show ((y++Str.empty++Str.join Str.empty (c::d):Str)).cps.toList=_;rw[Str.append_empty,Str.cps_append,Array.toList_append,b];rfl
 rw[show Txt.join Str.empty a=Str.join Str.empty a from StrLaws.glued_eq_join _ _];exact key a
def bj.by {J:It} {xs:List V} {l:Hp->Prop} (Y:fF J xs l) {g:TG} {tc:TT} {te:TE} {Q:VK} {j:St} {n:Hp} {L:Addr} (f:Nat->St->Hp->Prop) (t:f 0 j (upd n L (.lst []))) (u:∀ i a H,i<=xs.length->f i a H->l H)
 (w:∀ i x a H,xs[i]?=some x->f i a H->g x a H λc z=>tc c z λb o=>if b=true then te c o λv r=>∃ k,r L=some (.lst k)/\k.length<sizeLine/\f (i+1) c (upd r L (.lst (k++[v]))) else f (i+1) c o)
 (A:∀ a H,f xs.length a H->Q (.ref L) H):bj J g tc te Q j n L:=by
 refine⟨λi m a H=>m=xs.length-i/\i<=xs.length/\f i a H,⟨xs.length,by simp,Nat.zero_le _,t⟩,?_⟩;rintro i m a H ⟨rfl,B,p⟩;have q:=u i a H B p;by_cases d:i<xs.length
 · refine .inr ⟨Y.go i H q d,f (i+1),λC s D=>⟨xs.length-(i+1),Nat.sub_succ_lt_self _ _ d,U,d,D⟩,λx s y=>?_⟩;obtain⟨e,E⟩:=Y.yld i H x s (Y.go i H q d) q y;subst e;exact w i x a _ E p
 · have e:i=xs.length:=by lia
   subst e;exact .inl ⟨Y.stop _ H q ?M,A a H p⟩
def aG.of {X:Cx} {sc:Scope} {own:List Str} {outs:List (Nat×Str)} (a:Scope) (N:List Str) (o:X.env.scope=a:=by rfl) (i:X.N=N:=by rfl) (k:sc.kind=.function:=by rfl) (j:∀ y∈sc.names,y.2≠.cell:=by left) (l:∀ y∈sc.names,y.2=.local->sc.names.lookup y.1=some .local:=by left)
 (g:∀ y∈sc.names,y.2=.free->a.names.lookup y.1=some .cell\/a.names.lookup y.1=some .free:=by left)
 (h:∀ p∈outs,sc.names.lookup p.2≠some .local:=by left) (d:∀ p∈outs,N[p.1]?=some p.2/\(a.names.lookup p.2=some .cell\/a.names.lookup p.2=some .free):=by left):aG X sc own outs:=by
 subst o i;refine⟨k,j,l,g,λp c e=>h p c ?_,d⟩;have m:=iy e;unfold relabel at m;obtain⟨⟨n,q⟩,f,b⟩:=List.mem_map.mp m;dsimp only at b;split at b
 · cases b
 · cases b;exact l _ f U
section
variable {X:Cx}
def E6 (K:Fg):R2:=λx y H Q=>∃ l b xs zs,x=.ref l/\y=.ref b/\SqL K H l xs/\SqL K H b zs/\xs.length+zs.length<=sizeLine/\∀ p,H p=none->Q (.ref p) (upd H p (.lst (xs++zs)))
def sr:OpR X (binaryOp .Add) (E6 X.K):=by
 intro p s σ H x y v u Q I G O h;obtain⟨l,b,W,S,rfl,rfl,D,E,P,q⟩:=h;cases G;cases O;obtain⟨a,r,J,_⟩:=I.list D;obtain⟨i,t,c,_⟩:=I.list E;have T:=r.length;have R:=t.length;obtain⟨⟨M,C,w,L⟩,o,A,n,B⟩:=J.isList;obtain⟨⟨k,g,d,f⟩,m,j,N,z⟩:=c.isList;simp only at A B j z;subst A B j z;have e:a.toArray++i.toArray=(a++i).toArray:=by simp
 refine concat_meets ⟨_,o,U⟩ ⟨_,m,U⟩ noFill_list_add seq_list_add PySem.F.slot_list_add PySem.F.entry_list_add (PySem.F.args_list_add_2 _ _) (list_addW l b a.toArray i.toArray n N C g L f (by simp;lia)) ⟨o,m,?_⟩;rw[e];exact⟨.ref _,_,I.lnew (r.append t) (by rw[lAp];lia),U,q _ I.fresh⟩
end
section
variable {f:Type} [DecidableEq f]
def bd (kvs:List (f×V)) (k:f):Option V:=(kvs.find? λkv=>decide (kv.1=k)).map (·.2)
def cr (kvs:List (f×V)) (k:f) (v:V):List (f×V) :=
  if (kvs.any λkv=>decide (kv.1=k))=true then kvs.map (λkv=>if kv.1=k then (kv.1,v) else kv) else kvs++[(k,v)]
def ce {k:f} (e:p.1=k):bd (p::r) k=some p.2:=by simp[bd,List.find?_cons,e]
def cE {k:f} (e:¬ p.1=k):bd (p::r) k=bd r k:=by simp[bd,List.find?_cons,e]
def cy (k:f):∀ kvs:List (f×V),(kvs.any λkv=>decide (kv.1=k))=(bd kvs k).isSome
 | []=>rfl
 | p::r=>by
  rw[List.any_cons];by_cases e:p.1=k
  · simp only[ce e,decide_eq_true e,Bool.true_or,Option.isSome_some]
  · rw[cE e,decide_eq_false e,Bool.false_or];exact cy k r
def oF (k j:f) (y:V):∀ kvs:List (f×V),bd (kvs.map λkv=>if kv.1=k then (kv.1,y) else kv) j=(bd kvs j).map λx=>if j=k then y else x
 | []=>rfl
 | p::r=>by
  have ih:=oF k j y r;rw[List.map_cons];by_cases h:p.1=k
  · rw[if_pos h];by_cases e:p.1=j
    · rw[ce (p:=(p.1,y)) e,ce e,Option.map_some,if_pos (e.symm.trans h)]
    · rw[cE (p:=(p.1,y)) e,cE e,ih]
  · rw[if_neg h];by_cases e:p.1=j
    · rw[ce (p:=p) e,ce e,Option.map_some,if_neg (λz=>h (e.trans z))]
    · rw[cE (p:=p) e,cE e,ih]
def mf (k j:f) (y:V):∀ kvs:List (f×V),bd kvs k=none->bd (kvs++[(k,y)]) j=if j=k then some y else bd kvs j
 | [],_=>by
  by_cases e:k=j
  · rw[if_pos e.symm];exact ce (p:=(k,y)) e
  · rw[if_neg (λz=>e z.symm)];exact cE (p:=(k,y)) e
 | p::r,hn=>by
  rw[List.cons_append];have hk:¬ p.1=k:=λz=>by rw[ce z] at hn;cases hn
  rw[cE hk] at hn;have ih:=mf k j y r hn;by_cases e:p.1=j
  · rw[ce e,ce e,if_neg (λz=>hk (e.trans z))]
  · rw[cE e,cE e,ih]
def dh (kvs:List (f×V)) (k j:f) (y:V):bd (cr kvs k y) j=if j=k then some y else bd kvs j:=by
 unfold cr;by_cases a:(kvs.any λkv=>decide (kv.1=k))=true
 · rw[if_pos a,oF];rw[cy] at a;by_cases e:j=k
   · obtain⟨x,b⟩:=Option.isSome_iff_exists.mp a;rw[if_pos e,e,b,Option.map_some,if_pos U]
   · rw[if_neg e];cases bd kvs j with
     | none=>rfl
     | some x=>rw[Option.map_some,if_neg e]
 · rw[if_neg a];refine mf k j y kvs ?_;rw[cy] at a;cases q:bd kvs k with
   | none=>rfl
   | some x=>rw[q] at a;exact (a U).elim
def bS (kvs:List (f×V)) (k:f) (v:V):(cr kvs k v).length<=kvs.length+1:=by
 unfold cr;split
 · rw[lMp];lia
 · grind
def kZ {k:f} (v:V) (h:bd kvs k=none):cr kvs k v=kvs++[(k,v)]:=by
 unfold cr;rw[cy,h];exact if_neg ?G
def jc.isSome_eq (r:jc o u):o.isSome=u.isSome:=by
 cases o with
 | none=>cases u with
  | none=>rfl
  | some _=>exact (show False from r).elim
 | some _=>cases u with
  | none=>exact (show False from r).elim
  | some _=>rfl
def jc.getD (r:jc o u) (a:bh d d'):bh (o.getD d) (u.getD d'):=by
 cases o with
 | none=>cases u with
  | none=>exact a
  | some _=>exact (show False from r).elim
 | some _=>cases u with
  | none=>exact (show False from r).elim
  | some _=>exact r
def KV.val (r:KV kvs vs) (k:f):jc (bd kvs k) (valueAt vs k):=by
 unfold KV at r
 induction r with
 | nil=>exact True.intro
 | @cons p q ps qs h t ih =>
  obtain⟨c,d⟩:=h;by_cases e:p.1=k
  · have a:=c.symm.trans e;have b:valueAt (q::qs) k=some q.2:=by simp[valueAt,List.find?_cons,a]
    rw[ce e,b];exact d
  · have a:¬ q.1=k:=λz=>e (c.trans z);have b:valueAt (q::qs) k=valueAt qs k:=by simp[valueAt,List.find?_cons,a]
    rw[cE e,b];exact ih
def KV.any (r:KV kvs vs) (k:f):(kvs.any λkv=>decide (kv.1=k))=vs.any λkv=>decide (kv.1=k):=by
 unfold KV at r
 induction r with
 | nil=>rfl
 | cons h t b=>rw[List.any_cons,List.any_cons,b,h.1]
def KV.repl (r:KV kvs vs) (k:f) (d:bh y u):
 KV (kvs.map λkv=>if kv.1=k then (kv.1,y) else kv) (vs.map λkv=>if kv.1=k then (kv.1,u) else kv):=by
 unfold KV at r ⊢
 induction r with
 | nil=>exact .nil
 | @cons p q ps qs h t ih =>
  rw[List.map_cons,List.map_cons];refine .cons ?_ ih;obtain⟨c,b⟩:=h;by_cases e:p.1=k
  · grind
  · grind
def KV.put (r:KV kvs vs) (k:f) (a:bh y u):KV (cr kvs k y) (stored vs k u):=by
 unfold cr stored;rw[r.any k];by_cases e:(vs.any λkv=>decide (kv.1=k))=true
 · rw[if_pos e,if_pos e];exact r.repl k a
 · rw[if_neg e,if_neg e];exact Paired.snoc r ⟨U,a⟩
def KV.length {a:List (f×Value)} (r:KV kvs a):kvs.length=a.length:=Paired.length r
end
def fX (r:bh (kV k) u):(aI P w).is k u=true:=by
 cases k with
 | inl i=>obtain⟨t,e⟩:=(show ∃ t,u=Value.int i t from r);subst e;exact oY P w i t
 | inr x=>obtain⟨t,e⟩:=(show ∃ t,u=Value.str x t from r);subst e;exact gO P w x t
def mC {P:Program} {w:World}:∀ {ks:List Key} {us:List Value},b7 (ks.map kV) us->ItemsAre (aI P w) ks us
 | [],_,r=>by rw[List.map_nil] at r;cases r;exact .nil
 | k::ks,_,r=>by
  rw[List.map_cons] at r;cases r with
  | cons h t=>exact .cons (fX h) (mC t)
abbrev KT (H:Hp):List (List Key×V)->List (List Key×Addr×Value)->Prop:=Paired λp q=>p.1=q.1/\H q.2.1=some (.tup (p.1.map kV))/\bh p.2 q.2.2
def KT.val (r:KT H kvs xs) (k:List Key):jc (bd kvs k) ((atKey xs k).map (·.2)):=by
 induction r with
 | nil=>exact True.intro
 | @cons p q ps qs h t ih =>
  obtain⟨c,_,d⟩:=h;by_cases e:p.1=k
  · have a:=c.symm.trans e;have b:atKey (q::qs) k=some q.2:=by simp[atKey,List.find?_cons,a]
    rw[ce e,b];exact d
  · have a:¬ q.1=k:=λz=>e (c.trans z);have b:atKey (q::qs) k=atKey qs k:=by simp[atKey,List.find?_cons,a]
    rw[cE e,b];exact ih
def KT.repl (r:KT H kvs xs) (k:List Key) (c:bh y u):
 KT H (kvs.map λkv=>if kv.1=k then (kv.1,y) else kv) (xs.map (putAt k u)):=by
 induction r with
 | nil=>exact .nil
 | @cons p q ps qs h t ih =>
  rw[List.map_cons,List.map_cons];refine .cons ?_ ih;obtain⟨b,d,f⟩:=h;unfold putAt;by_cases e:p.1=k
  · grind
  · grind
def KT.put (r:KT H kvs xs) (k:List Key) (c:H b=some (.tup (k.map kV))) (a:bh y u):
 KT H (cr kvs k y) (storedH xs k b u):=by
 have e:(kvs.any λkv=>decide (kv.1=k))=(atKey xs k).isSome:=by
  rw[cy,(r.val k).isSome_eq,Option.isSome_map]
 unfold cr storedH;rw[e];by_cases q:(atKey xs k).isSome=true
 · rw[if_pos q,if_pos q];exact r.repl k a
 · rw[if_neg q,if_neg q];exact Paired.snoc r ⟨U,c,a⟩
def KT.keeps (r:KT H kvs xs) (c:∀ b a,H b=some (.tup a)->H' b=some (.tup a)):KT H' kvs xs :=
 Paired.mapP r λ_ _ z=>⟨z.1,c _ _ z.2.1,z.2.2⟩
section
variable {P:Program} {w:World} {H:Hp} {h:Heap} {a:Addr}
def Ap (ok:HOk P w H h) (e:Rd H a u):bV P w H h a u:=e.ok ok
def jS (ok:HOk P w H h) (e:Rd H a (.dK kvs)):kvs.length<=sizeLine/\(a==sysModules)=false/\∃ b,KV kvs b/\h.DictOf (aI P w) a b :=
 show bV P w H h a (.dK kvs) from Ap ok e
def ij (ok:HOk P w H h) (e:H a=some (.dK kvs)):kvs.length<=sizeLine/\(a==sysModules)=false/\∃ b,KV kvs b/\h.DictOf (aI P w) a b:=jS ok (.inl e)
def iA (ok:HOk P w H h) (e:H a=some (.tup (ks.map kV))):(tupleKind (aI P w)).is h ks a:=by
 obtain⟨_,d,r,o,f,g,n,i⟩:=(show bV P w H h a (.tup (ks.map kV)) from ok a _ e);exact⟨o,d.toArray,n,f,g,i,by simpa using mC r⟩
def jR (ok:HOk P w H h) (e:Rd H a (.dT kvs)):kvs.length<=sizeLine/\(a==sysModules)=false /\
 ∃ c,KT H kvs c/\h.DictOfH (tupleKind (aI P w)) a c:=by
 obtain⟨z,y,c,r,o,i,f,d,n,s,g,k⟩:=(show bV P w H h a (.dT kvs) from Ap ok e);refine⟨z,y,c,r,o,i,f,d,n,s,g,λx b=>?_,k⟩;have all:∀ {l:List (List Key×V)} {m:List (List Key×Addr×Value)},KT H l m->∀ x∈m,(tupleKind (aI P w)).is h x.1 x.2.1:=by
  intro l m q
  induction q with
  | nil=>intro x b;exact nomatch b
  | @cons p q ps qs hq t ih =>
   intro x b
   rcases List.mem_cons.mp b with e | b
   · subst e;exact iA ok (by rw[<- hq.1];exact hq.2.1)
   · exact ih x b
 exact all r x b
def Fi (ok:HOk P w H h) (e:H a=some (.dT kvs)):kvs.length<=sizeLine/\(a==sysModules)=false /\
 ∃ b,KT H kvs b/\h.DictOfH (tupleKind (aI P w)) a b:=jR ok (.inl e)
end
def dC (H:Hp) (a:Addr) (y:V) (r:Option V):Prop :=
  (∃ kvs k,Rd H a (.dK kvs)/\y=kV k/\r=bd kvs k)\/∃ kvs k b,Rd H a (.dT kvs)/\y=.ref b/\H b=some (.tup (k.map kV))/\r=bd kvs k
def gY (H:Hp) (a:Addr) (y v:V) (H':Hp):Prop :=
  (∃ kvs k,H a=some (.dK kvs)/\y=kV k/\kvs.length<sizeLine/\H'=upd H a (.dK (cr kvs k v))) \/
  ∃ kvs k b,H a=some (.dT kvs)/\y=.ref b/\H b=some (.tup (k.map kV))/\kvs.length<sizeLine/\H'=upd H a (.dT (cr kvs k v))
def dC.k {H:Hp} {a:Addr} {kvs:List (Key×V)} {k:Key} (e:H a=some (.dK kvs)):dC H a (kV k) (bd kvs k):=.inl ⟨kvs,k,.inl e,U,U⟩
def gY.k {H:Hp} {a:Addr} {kvs:List (Key×V)} {k:Key} {v:V} (e:H a=some (.dK kvs)) (hl:kvs.length<sizeLine):gY H a (kV k) v (upd H a (.dK (cr kvs k v))):=.inl ⟨kvs,k,e,U,hl,U⟩
section
variable {X:Cx} {W:AOs} {σ:St} {H:Hp} {s:Shared} {a:Addr} {y v:V} {u r:Value} {o:Option V} {A:Around} {E:VSP}
def Inv.big (I:Inv X W σ H s):sysModules<s.heap.objs.size:=by
 have h:=(I.mod.glob.keeps I.bk).lt;exact Nat.lt_trans ?G h
def uJ {Q:VSP} (B:A.units+1<cLine) (I:Inv X W σ H s) (g:dC H a y (some v)) (q:bh y u) (h:∀ f o,Inv X W σ H o->bh v f->Q f o) :
 wpAny ?N A (getItem (.ref a) u) Q E s:=by
 rcases g with ⟨m,k,e,n,l⟩ | ⟨m,k,b,e,n,r,l⟩
 · subst n;obtain⟨z,C,F,d,i⟩:=jS I.hok e;obtain⟨f,j,c⟩:=jc.some_of (by rw[l];exact d.val k);exact wpAny_getItem_of (fX q) i.mapOf j (h f _ (I.tok _) c)
 · subst n;cases (show u=Value.ref b from q);obtain⟨z,C,D,d,i⟩:=jR I.hok e;obtain⟨f,j,c⟩:=jc.some_of (by rw[l];exact d.val k);obtain⟨p,t,x⟩:=oMS.mp j;refine wpAny_getItem_heap (tupleKind_room_in1 B) (iA I.hok r) i t ?_;rw[x];exact h f _ (I.tok _) c
def Hc {Q:VSP} (r:A.units+1<cLine) (I:Inv X W σ H s) (g:dC H a y o) (n:bh y u) (h:∀ m,Inv X W σ H m->Q (.bool o.isSome) m) :
 wpAny ?N A (compareOp .In u (.ref a)) Q E s:=by
 rcases g with ⟨f,k,e,j,l⟩ | ⟨f,k,b,e,j,p,l⟩
 · subst j;obtain⟨z,i,v,c,d⟩:=jS I.hok e;refine wpAny_in_of (fX n) i d.mapOf ?_;rw[<- (c.val k).isSome_eq,<- l];exact h _ (I.tok _)
 · subst j;cases (show u=Value.ref b from n);obtain⟨z,i,t,c,d⟩:=jR I.hok e;refine wpAny_in_heap (tupleKind_room_in1 r) (iA I.hok p) i d ?_;have q:=(c.val k).isSome_eq;rw[Option.isSome_map] at q;rw[<- q,<- l];exact h _ (I.tok _)
def zT {Q:VSP} (r:A.units+1<cLine) (I:Inv X W σ H s) (g:dC H a y o) (n:bh y u) (h:∀ m,Inv X W σ H m->Q (.bool (!o.isSome)) m) :
 wpAny ?N A (compareOp .NotIn u (.ref a)) Q E s:=by
 rcases g with ⟨f,k,e,j,l⟩ | ⟨f,k,b,e,j,p,l⟩
 · subst j;obtain⟨z,i,v,c,d⟩:=jS I.hok e;refine wpAny_notIn_of (fX n) i d.mapOf ?_;rw[<- (c.val k).isSome_eq,<- l];exact h _ (I.tok _)
 · subst j;cases (show u=Value.ref b from n);obtain⟨z,i,t,c,d⟩:=jR I.hok e;refine wpAny_notIn_heap (tupleKind_room_in1 r) (iA I.hok p) i d ?_;have q:=(c.val k).isSome_eq;rw[Option.isSome_map] at q;rw[<- q,<- l];exact h _ (I.tok _)
def dG {h':Heap} {t':Nat} {ob:HO} (I:Inv X W σ H s) (mu:Mut (H a)) (hs:Heap.SameBut a s.heap h') (he:∃ q,h'.get? a=some q) (new:bV X.prog X.w (upd H a ob) h' a ob) :
 Inv X W σ (upd H a ob) {s with heap:=h',toks:=t'} :=
 I.write (x:=a) (e:=a) mu (.inl U) (λb q hb z=>(hs.2 b hb).trans z) he new
def iE (z:kvs.length<=sizeLine) (e:(a==sysModules)=false) (b:KV kvs c) (d:h'.DictOf (aI P w) a c):
 bV P w H' h' a (.dK kvs):=⟨z,e,c,b,d⟩
def uI (J:A.units+1<cLine) (I:Inv X W σ H s) (g:gY H a y v H') (F:bh y u) (x:bh v r) (h:∀ C,Inv X W σ H' C->Q () C):
 wpAny ?N A (setItem (.ref a) u r) Q E s:=by
 rcases g with ⟨c,k,e,p,l,n⟩ | ⟨c,k,b,e,p,B,l,n⟩
 · subst p n;obtain⟨z,t,L,d,j⟩:=ij I.hok e;have G:L.length<=sizeLine:=by rw[<- d.length];exact z
   have o:(cr c k v).length<=sizeLine:=by have:=bS c k v;lia
   refine wpAny_setItem_pairs (fX F) j λZ f m=>h _ ?_;have S:∃ q,Z.get? a=some q:=let ⟨q,_,_,i,_⟩:=f;⟨q,i⟩;exact dG I (by rw[e];exact True.intro) m S (iE o t (d.put k x) f)
 · subst p n;cases (show u=Value.ref b from F);obtain⟨z,t,T,d,j⟩:=Fi I.hok e;have G:T.length<=sizeLine:=by rw[<- Paired.length d];exact z
   have o:(cr c k v).length<=sizeLine:=by have:=bS c k v;lia
   refine wpAny_setItem_heap (tupleKind_room_in1 J) (iA I.hok B) j λZ f m=>h _ ?_;obtain⟨q,K,N,i,M,P,R,_,O⟩:=f;refine dG I (by rw[e];exact True.intro) m ⟨q,i⟩ ⟨o,t,_,(d.put k B x).keeps λc Y D=>?_,q,K,N,i,M,P,R,O⟩;rw[ai (EV D e (λz=>nomatch z))];exact D
end
def CA (i:Expr):Prop:=∀ ov iv,subscripted i false ov iv=operate [ov,iv] (getItem ov iv)
def rK {E:VSP} {T k:String} {Q:VSP}
 (l:typeLookup (.type T) "__getitem__"=pure (some (.builtin k))) (j:CA m)
 (h:wpAny ?L A (eval n q) (λo c=>wpAny ?L A (eval m q) (λi a=>a.TypeIs o T/\wpAny ?L A (getItem o i) Q E a) E c) E s):
 wpAny ?L A (eval (.Subscript n m t) q) Q E s:=by
 refine Subscript_ (wpAny_mono h (λo c f=>wpAny_mono f (λi a b=>?_) λ_ _ x=>x) λ_ _ x=>x);obtain⟨g,b⟩:=b;unfold subscriptTail;refine wB ?_;rw[getitemInPython_of_ne g.not_modules];refine wB (wpAny_specialOf g l ?_);have p:wpAny ?L A (subscripted m false o i) (λr d=>wpAny ?L A (letTemporaryGo n o r>>=λ_=>pure r) Q E d) E a:=by
  rw[j o i];exact wpAny_operating (wpAny_mono b (λr d e=>wB (wpAny_letTemporaryGo (wP e))) λ_ _ x=>x)
 first
  | exact wP (wB p)
  | exact wB (wP (wB p))
  | exact wB p
def pR {σ:St} (I:Inv X pins σ H s) (g:dC H a y o):s.TypeIs (.ref a) "dict":=by
 rcases g with ⟨d,k,e,_,_⟩ | ⟨d,k,b,e,_,_,_⟩
 · obtain⟨_,_,f,_,c⟩:=jS I.hok e;exact c.typeIs
 · obtain⟨_,_,h,_,c⟩:=jR I.hok e;exact c.typeIs
inductive Bb (x y:V) (H:Hp) (Q:VK):Prop
  | mk (a:Addr) (v:V) (h:x=.ref a) (g:dC H a y (some v)) (q:Q v H):Bb x y H Q
def Aj (td ty:TE):TE:=λσ H Q=>td σ H λx H1=>ty σ H1 λy H2=>Bb x y H2 Q
def G3 (ty td:TE):TE:=λσ H Q=>ty σ H λy H1=>td σ H1 λx H2=>∃ a o,x=.ref a/\dC H2 a y o/\Q (.bl o.isSome) H2
def yG (ty td:TE):TE:=λσ H Q=>ty σ H λy H1=>td σ H1 λx H2=>∃ a o,x=.ref a/\dC H2 a y o/\Q (.bl (!o.isSome)) H2
inductive yi (x y v:V) (H:Hp) (N:Hp->Prop):Prop
  | mk (a:Addr) (H4:Hp) (h:x=.ref a) (g:gY H a y v H4) (q:N H4):yi x y v H N
def Ao (td ty tv:TE):TS:=λD σ H=>tv σ H λv H1=>td σ H1 λx H2=>ty σ H2 λy H3=>yi x y v H3 (D.nx σ)
section
variable {X:Cx} {o i e O:Expr} {T P tpos:Pos} {R S W:TE}
def pM (k:X.A.units+1<cLine) (p:PE X o R) (hi:PE X i S) (j:CA i):PE X (.Subscript o i T) (Aj R S):=by
 intro b s σ H Q I h;refine rK PySem.F.slot_dict_getitem.lookup j (thn (p b s σ H _ I h) λu q c=>?_);obtain⟨x,m,B,l,z⟩:=c;refine thn (hi b q σ m _ B z) λiv E d=>?_;obtain⟨y,C,f,w,a,v,t,g,n⟩:=d;subst t;obtain rfl:u=Value.ref a:=l;exact⟨pR f g,uJ k f g w λw' D r e=>⟨v,C,r,e,n⟩⟩
def wx (e:X.A.units+1<cLine) (hi:PE X i S) (m:PE X o R):PC X .In i o (G3 S R):=by
 intro b s σ H Q I h;refine thn (hi b s σ H _ I h) λiv n c=>?_;obtain⟨y,k,w,t,v⟩:=c;refine thn (m b n σ k _ w v) λu B d=>?_;obtain⟨x,z,p,j,a,f,r,g,l⟩:=d;subst r;obtain rfl:u=Value.ref a:=j;exact Hc e p g t λs3 q=>⟨.bl f.isSome,z,q,U,l⟩
def jv (e:X.A.units+1<cLine) (hi:PE X i S) (m:PE X o R):PC X .NotIn i o (yG S R):=by
 intro b s σ H Q I h;refine thn (hi b s σ H _ I h) λiv n d=>?_;obtain⟨y,k,w,t,v⟩:=d;refine thn (m b n σ k _ w v) λu B c=>?_;obtain⟨x,z,p,j,a,f,r,g,l⟩:=c;subst r;obtain rfl:u=Value.ref a:=j;exact zT e p g t λs3 q=>⟨.bl (!f.isSome),z,q,U,l⟩
def dr (j:X.A.units+1<cLine) (p:PE X o R) (hi:PE X i S) (l:PE X O W) (f:swapsWith O (some (.Subscript o i P)) T.line X.env=pure false) :
 PS X (.Assign [.Subscript o i P] O T) (Ao R S W):=by
 intro b s σ H D I h;refine wpAny_Assign_Subscript (thn (l b s σ H _ I h) λr q c=>?_) f;obtain⟨v,m,F,L,E⟩:=c;refine thn (p b q σ m _ F E) λu J e=>?_;obtain⟨x,K,r,k,n⟩:=e;refine thn (hi b J σ K _ r n) λiv N d=>?_;obtain⟨y,M,w,C,a,G,z,g,t⟩:=d;subst z;obtain rfl:u=Value.ref a:=k;exact uI j w g C L λs4 B=>⟨σ,G,B,t⟩
end
def j9 (h:Heap) (a:sysModules<h.objs.size):bV P w H (h.push {cls:=.type "dict",data:=.dict #[]}) h.objs.size (.dK []) :=
 ⟨Nat.zero_le _,beq_eq_false_iff_ne.mpr (Ne.symm (Nat.ne_of_lt a)),[],.nil,Heap.DictOf.new h⟩
def Bl:TE:=λ_ H Q=>∀ p,H p=none->Q (.ref p) (upd H p (.dK []))
section
variable {X:Cx} {pos:Pos}
def fT:PE X (.Dict [] [] pos) Bl:=λpins s σ H Q I h =>
 wpAny_Dict_empty ⟨.ref s.heap.objs.size,_,I.laid (λ_ _ q=>hpS _ q) ?M (j9 s.heap I.big),U,h _ (I.hok.fresh ?M)⟩
end
def na:List (TE×TE)->St->Hp->(List (V×V)->Hp->Prop)->Prop
  | [],_,H,Q=>Q [] H
  | (tk,tv)::r,σ,H,Q=>tk σ H λx H1=>tv σ H1 λy H2=>na r σ H2 λps H3=>Q ((x,y)::ps) H3
abbrev VV:List (V×V)->List (Value×Value)->Prop:=Paired λp q=>bh p.1 q.1/\bh p.2 q.2
def PPs (X:Cx) (pos:Pos) (keys:List (Option Expr)) (values:List Expr) (trs:List (TE×TE)):Prop :=
  ∀ (pins:AOs) (s:Shared) (σ:St) (H:Hp) (Q:List (V×V)->Hp->Prop),Inv X pins σ H s->na trs σ H Q ->
    wpAny ?N X.A (evalPairs (pairTrees keys values X.env pos)) (λvs s'=>∃ ps H',Inv X pins σ H' s'/\VV ps vs/\Q ps H') X.xe s
def iR:PPs X pos [] [] []:=λpins s σ H Q I h=>pairTrees_nil_walk ⟨[],H,I,.nil,h⟩
def b0 {X:Cx} {b:Pos} {k v:Expr} {ks:List (Option Expr)} {e:List Expr} {tk f:TE} {c:List (TE×TE)} (n:PE X k tk) (j:PE X v f) (o:PPs X b ks e c) :
 PPs X b (some k::ks) (v::e) ((tk,f)::c):=λpins s σ H Q I h =>
 pairTrees_cons_walk (thn (n pins s σ H _ I h) λu p ⟨x,l,A,i,z⟩=>thn (j pins p σ l _ A z) λw2 B ⟨y,C,q,w,m⟩ =>
   thn (o pins B σ C _ q m) λws D ⟨r,g,u,d,t⟩=>⟨(x,y)::r,g,u,.cons ⟨i,w⟩ d,t⟩)
def br (kvs more:List (Key×V)):List (Key×V):=more.foldl (λacc kv=>cr acc kv.1 kv.2) kvs
def KV.merge:∀ {more:List (Key×V)} {b:List (Key×Value)} {kvs:List (Key×V)} {a:List (Key×Value)},KV more b->KV kvs a->KV (br kvs more) (merged a b):=by
 intro more b kvs a r;unfold KV at r
 induction r generalizing kvs a with
 | nil=>intro q;exact q
 | @cons p q ps qs h t ih =>
  intro c;have e:KV (cr kvs p.1 p.2) (stored a q.1 q.2):=by
   have:=c.put p.1 h.2;rw[<- h.1];exact this
  exact ih e
def eE:∀ (more kvs:List (Key×V)),(br kvs more).length<=kvs.length+more.length
 | [],kvs=>by show kvs.length<=kvs.length+0;lia
 | p::r,kvs=>by
  have h1:=eE r (cr kvs p.1 p.2);have h2:=bS kvs p.1 p.2;show (br (cr kvs p.1 p.2) r).length<=_;rw[List.length_cons];lia
def iG {P:Program} {w:World}:∀ {kvs:List (Key×V)} {ws:List (Value×Value)},VV (kvs.map λkv=>(kV kv.1,kv.2)) ws->∃ rs,Carries (aI P w) ws rs/\KV kvs rs
 | [],_,r=>by rw[List.map_nil] at r;cases r;exact⟨[],True.intro,.nil⟩
 | p::kvs,_,r=>by
  rw[List.map_cons] at r;cases r with
  | @cons a b as bs h t =>
   obtain⟨rs,c,q⟩:=iG (P:=P) (w:=w) t;obtain⟨b1,b2⟩:=b;exact⟨(p.1,b2)::rs,⟨fX h.1,U,c⟩,.cons ⟨U,h.2⟩ q⟩
def D1 (trs:List (TE×TE)):TE:=λσ H Q=>∀ p,H p=none->na trs σ (upd H p (.dK [])) λps H2=>H2 p=some (.dK [])/\∃ kvs:List (Key×V),ps=kvs.map (λkv=>(kV kv.1,kv.2))/\kvs.length<=15/\Q (.ref p) (upd H2 p (.dK (br [] kvs)))
def kE {X:Cx} {g:Pos} {a:List (Option Expr)} {b:List Expr} {k:List (TE×TE)} (h:PPs X g a b k) (C:a.all (·.isSome)=true) (u:a.length=b.length) (E:a≠[])
 (m:a.length<=15):PE X (.Dict a b g) (D1 k):=by
 intro j s M H Q I q;have A:=I.hok.fresh (Nat.le_refl s.heap.objs.size);have G:=I.laid (t':=s.toks) (λ_ _ q=>hpS _ q) ?M (j9 s.heap I.big);refine wpAny_Dict_walk (knd:=aI X.prog X.w) C u E m (thn (h j _ M _ _ G (q _ A)) λT P d=>?_);obtain⟨N,R,n,l,e,f,B,O,y⟩:=d;subst B;obtain⟨J,c,v⟩:=iG l;obtain⟨z,L,x,F,o⟩:=ij n.hok e;cases F;refine⟨J,c,o,λS i p=>⟨.ref s.heap.objs.size,_,?_,U,y⟩⟩;have r:(br [] f).length<=sizeLine:=by
  have D:=eE f [];rw[List.length_nil] at D;rw[sizeLine_eq];lia
 have K:∃ q,S.get? s.heap.objs.size=some q:=let ⟨q,_,_,t,_⟩:=i;⟨q,t⟩;exact dG n (by rw[e];exact True.intro) p K (iE r L (v.merge .nil) i)
structure M1 (X:Cx) (o:Expr) (m:Str) (HR:Pos) (e:Expr) (gt:Pos):Prop where
  base:attributeBase o m X.env (eval o X.env)=eval o X.env
  few:((backTo gt (starEach [e] X.env)).all (λx=>!x.1)&&(backToKw gt (keywordEach [] X.env)).all (λx=>x.1.isSome)
    && decide (([e]:List Expr).length+([]:List Keyword).length+(if ([]:List Keyword).isEmpty then 0 else 1)<30))=true
  line:(HR.endLine==gt.line)=true
  trees:backTo gt (starEach [e] X.env)=[?U]
structure M2 (X:Cx) (o:Expr) (m:Str) (HR:Pos) (e f:Expr) (gt:Pos):Prop where
  base:attributeBase o m X.env (eval o X.env)=eval o X.env
  few:((backTo gt (starEach [e,f] X.env)).all (λx=>!x.1)&&(backToKw gt (keywordEach [] X.env)).all (λx=>x.1.isSome)
    && decide (([e,f]:List Expr).length+([]:List Keyword).length+(if ([]:List Keyword).isEmpty then 0 else 1)<30))=true
  line:(HR.endLine==gt.line)=true
  trees:backTo gt (starEach [e,f] X.env)=[?U,(false,eval f X.env)]
def IsD (H:Hp) (a:Addr):Prop:=(∃ kvs,Rd H a (.dK kvs))\/∃ kvs,Rd H a (.dT kvs)
def nP {σ:St} (I:Inv X pins σ H s) (d:IsD H a):
 s.TypeIs (.ref a) "dict"/\(∀ b,Value.ref a=.ref b->∃ c,s.heap.get? b=some c/\c.dict=none)/\(a==sysModules)=false:=by
 rcases d with ⟨i,e⟩ | ⟨i,e⟩
 · obtain⟨_,j,m,_,f⟩:=jS I.hok e;refine⟨f.typeIs,λb q=>?_,j⟩;cases q;obtain⟨c,_,_,g,h,_⟩:=f;exact⟨c,g,h.2.1⟩
 · obtain⟨_,j,l,_,f⟩:=jR I.hok e;refine⟨f.typeIs,λb q=>?_,j⟩;cases q;obtain⟨c,_,_,g,h,_⟩:=f;exact⟨c,g,h.2.1⟩
section
variable {X:Cx} {D:AOs} {G:St} {H:Hp} {s:Shared} {a:Addr} {y d:V} {u r:Value} {o:Option V} {A:Around} {E:VSP}
def Cn {Q:VSP} (r:A.units+1<cLine) (I:Inv X D G H s) (g:dC H a y o) (p:bh y u) (h:∀ m n,Inv X D G H n->bh (o.getD .non) m->Q m n) :
 wpAny ?N A (call (.builtin "dict.get") [.ref a,u]) Q E s:=by
 rcases g with ⟨f,k,e,j,l⟩ | ⟨f,k,b,e,j,q,l⟩
 · subst j;obtain⟨z,i,v,c,d⟩:=jS I.hok e;refine call_meetsIn PySem.F.slot_dict_get d.typeIs PySem.F.entry_dict_get (PySem.F.args_dict_get_2 _ _) (meets_dict_get (aI X.prog X.w) a (fX p) i) ⟨_,d.mapOf,h _ _ (I.tok _) ?_⟩;rw[l];exact (c.val k).getD U
 · subst j;cases (show u=Value.ref b from p);obtain⟨z,i,t,c,d⟩:=jR I.hok e;refine call_meetsIn PySem.F.slot_dict_get d.typeIs PySem.F.entry_dict_get (PySem.F.args_dict_get_2 _ _) (meetsH_dict_get (tupleKind (aI X.prog X.w)) a b i) ⟨tupleKind_room_in1 r,k,t,iA I.hok q,d,h _ _ (I.tok _) ?_⟩;rw[l];exact (c.val k).getD U
def Cm {Q:VSP} (x:A.units+1<cLine) (I:Inv X D G H s) (g:dC H a y o) (q:bh y u) (t:bh d r) (h:∀ n p,Inv X D G H p->bh (o.getD d) n->Q n p) :
 wpAny ?N A (call (.builtin "dict.get") [.ref a,u,r]) Q E s:=by
 rcases g with ⟨i,k,e,m,l⟩ | ⟨i,k,b,e,m,v,l⟩
 · subst m;obtain⟨z,j,C,c,f⟩:=jS I.hok e;refine call_meetsIn PySem.F.slot_dict_get f.typeIs PySem.F.entry_dict_get (PySem.F.args_dict_get_3 _ _ _) (meets_dict_get_default (aI X.prog X.w) a (fX q) j r) ⟨_,f.mapOf,h _ _ (I.tok _) ?_⟩;rw[l];exact (c.val k).getD t
 · subst m;cases (show u=Value.ref b from q);obtain⟨z,j,B,c,f⟩:=jR I.hok e;refine call_meetsIn PySem.F.slot_dict_get f.typeIs PySem.F.entry_dict_get (PySem.F.args_dict_get_3 _ _ _) (meetsH_dict_get_default (tupleKind (aI X.prog X.w)) a b j r) ⟨tupleKind_room_in1 x,k,B,iA I.hok v,f,h _ _ (I.tok _) ?_⟩;rw[l];exact (c.val k).getD t
end
def Bn (td ty:TE):TE:=λσ H Q=>td σ H λx H1=>∃ a,x=.ref a/\IsD H1 a/\ty σ H1 λy H2=>∃ o,dC H2 a y o/\Q (o.getD .non) H2
def Bm (td ty tx:TE):TE:=λσ H Q=>td σ H λx H1=>∃ a,x=.ref a/\IsD H1 a/\ty σ H1 λy H2=>tx σ H2 λz H3=>∃ o,dC H3 a y o/\Q (o.getD z) H3
section
variable {X:Cx} {o e f:Expr} {Y Z:Pos} {td ty tx:TE}
def wv (l:X.A.units+1<cLine) (t:PE X o td) (he:PE X e ty) (m:M1 X o "get" Y e Z):PE X (.Call (.Attribute o "get" Y) [e] [] Z) (Bn td ty):=by
 intro b s σ H Q I h;refine wpAny_Call_method m.base m.few m.line PySem.F.plainAttrs_dict PySem.F.slot_dict_get PySem.F.type_dict_get (thn (t b s σ H _ I h) λu v c=>?_);obtain⟨x,p,j,n,a,B,d,D⟩:=c;subst B;obtain rfl:u=Value.ref a:=n;obtain⟨q,k,_⟩:=nP j d;refine⟨q,k,?_⟩;rw[m.trees];refine Calls.callWith_builtin U (Calls.evalArgs_plain (Calls.spliced_cons (thn (he b v σ p _ j D) λiv K f=>?_)));obtain⟨y,E,w,C,G,g,r⟩:=f;refine Calls.spliced_nil ?_;exact Cn l w g C λw' J z i=>⟨_,E,z,i,r⟩
def l9 (r:X.A.units+1<cLine) (D:PE X o td) (he:PE X e ty) (p:PE X f tx) (m:M2 X o "get" Y e f Z):PE X (.Call (.Attribute o "get" Y) [e,f] [] Z) (Bm td ty tx):=by
 intro b s σ H Q I h;refine wpAny_Call_method m.base m.few m.line PySem.F.plainAttrs_dict PySem.F.slot_dict_get PySem.F.type_dict_get (thn (D b s σ H _ I h) λu E c=>?_);obtain⟨x,v,l,t,a,L,d,O⟩:=c;subst L;obtain rfl:u=Value.ref a:=t;obtain⟨B,q,_⟩:=nP l d;refine⟨B,q,?_⟩;rw[m.trees];refine Calls.callWith_builtin U (Calls.evalArgs_plain (Calls.spliced_cons (thn (he b E σ v _ l O) λiv P j=>?_)));obtain⟨y,R,G,N,C⟩:=j;refine Calls.spliced_cons (thn (p b P σ R _ G C) λfv T i=>?_);obtain⟨z,n,K,w,S,g,J⟩:=i;refine Calls.spliced_nil ?_;exact Cm r K g N w λw' W M k=>⟨_,n,M,k,J⟩
end
section
variable {X:Cx}
def w9 (K:Fg):R2:=λx y H Q=>∃ a b xs ys,x=.ref a/\y=.ref b/\SqT K H a xs/\SqT K H b ys/\xs.length+ys.length<=sizeLine /\
  (xs=[]->Q (.ref b) H)/\(xs≠[]->ys=[]->Q (.ref a) H)/\(xs≠[]->ys≠[]->∀ p,H p=none->Q (.ref p) (upd H p (.tup (xs++ys))))
def fb:OpR X (binaryOp .Add) (w9 X.K):=by
 intro d s σ H x y v u Q I e k h;obtain⟨a,b,p,L,rfl,rfl,j,i,C,w,M,z⟩:=h;by_cases c:p=[]
 · cases e;cases k;obtain⟨E,G,p1,_⟩:=I.tuple j;obtain⟨O,T,t,_⟩:=I.tuple i;have r:=G.nil_iff.mpr c;subst r;obtain⟨⟨P,B,S,N⟩,q,l,n,m⟩:=p1;obtain⟨⟨R,A,W,J⟩,g,f,D,o⟩:=t;simp only at l m f o;subst l m f o;exact concat_meets ⟨_,q,U⟩ ⟨_,g,U⟩ noFill_tuple_add seq_tuple_add PySem.F.slot_tuple_add PySem.F.entry_tuple_add (PySem.F.args_tuple_add_2 _ _) (tuple_addW0 a b _ _ n D B A N J ?B) ⟨q,g,⟨.ref b,H,I,U,w c⟩⟩
 · exact zi d s σ H _ _ v u Q I e k ⟨a,b,p,L,U,U,j,i,c,C,M c,z c⟩
def jW (P:Program) (w:World) (K:Fg) (a:Addr) (kvs:List (Key×V)):Prop:=∃ (o:Obj) (vs:List (Key×Value)),K.lookup a=some o/\o.IsDictOf (aI P w) vs/\KV kvs vs/\(a==sysModules)=false
def jW.of {σ:St} (I:Inv X pins σ H s) (h:jW X.prog X.w X.K a kvs):(a==sysModules)=false/\∃ b,KV kvs b/\s.heap.DictOf (aI X.prog X.w) a b:=by
 obtain⟨o,b,c,e,f,d⟩:=h;exact⟨d,b,f,Heap.dictOf_iff.mpr ⟨o,I.kIn a o c,e⟩⟩
variable {o i:Expr} {pos:Pos} {R S:TE}
def CY (P:Program) (w:World) (K:Fg) (R S:TE):TE:=λσ H Q=>R σ H λx H1=>S σ H1 λy H2=>∃ a kvs k v,x=.ref a/\jW P w K a kvs/\y=kV k/\bd kvs k=some v/\Q v H2
def yE (P:Program) (w:World) (K:Fg) (S R:TE):TE:=λσ H Q=>S σ H λy H1=>R σ H1 λx H2=>∃ a kvs k,x=.ref a/\jW P w K a kvs/\y=kV k/\Q (.bl (!(bd kvs k).isSome)) H2
def nC (J:PE X o R) (hi:PE X i S) (n:CA i):PE X (.Subscript o i pos) (CY X.prog X.w X.K R S):=by
 intro b s σ H Q I h;refine rK PySem.F.slot_dict_getitem.lookup n (thn (J b s σ H _ I h) λu L c=>?_);obtain⟨x,r,D,p,G⟩:=c;refine thn (hi b L σ r _ D G) λiv O d=>?_;obtain⟨y,t,j,z,a,E,k,v,B,g,q,l,A⟩:=d;subst B q;obtain rfl:u=Value.ref a:=p;obtain⟨N,P,f,m⟩:=g.of j;obtain⟨M,C,e⟩:=jc.some_of (by rw[<- l];exact f.val k);exact⟨m.typeIs,wpAny_getItem_of (fX z) m.mapOf C ⟨v,t,j.tok _,e,A⟩⟩
def ud (hi:PE X i S) (C:PE X o R):PC X .NotIn i o (yE X.prog X.w X.K S R):=by
 intro b s σ H Q I h;refine thn (hi b s σ H _ I h) λiv D d=>?_;obtain⟨y,n,A,q,B⟩:=d;refine thn (C b D σ n _ A B) λu E c=>?_;obtain⟨x,p,j,l,a,f,k,v,g,m,r⟩:=c;subst v m;obtain rfl:u=Value.ref a:=l;obtain⟨t,F,e,z⟩:=g.of j;refine wpAny_notIn_of (fX q) t z.mapOf ?_;rw[<- (e.val k).isSome_eq];exact⟨.bl (!(bd f k).isSome),p,j.tok _,U,r⟩
end
def iQ {f d A:Pos} (J:X.calm=true) (S:aG X sc own outs) (hi:PI X t Z wi)
 (m:∀ (j:List Addr) (a:AOs) (s:Shared) (H:Hp),PG (blk X sc ?W (dI own outs) j a s H) t g /\
 oz (blk X sc ?W (dI own outs) j a s H) i tc/\PE (blk X sc ?W (dI own outs) j a s H) elt te)
 (M:X.N.Nodup) (r:X.N[i0]?=some y0) (u:X.env.scope.names.lookup y0=some .local) (k:swapsWith (.ListComp elt [⟨t,Z,i,0⟩] sc f) (some (.Name y0 A)) d.line X.env=pure true:=by rfl)
 (B:∀ x,foldedSetIterable Z X.env x=pure x:=by intro _;rfl):PS X (.Assign [.Name y0 A] (.ListComp elt [⟨t,Z,i,0⟩] sc f) d) (vw (tLC wi own.length outs g tc te) (cP i0)):=by
 intro a s σ H W I h;rw[exec_Assign_Name_used _ _ _ _ k];refine wB (wpAny_standAt (wB ?_));refine wB (wpAny_mono ?_ (λ_ T L=>wP (wP L)) λ_ _ e=>e);refine sF J S hi m B I h λD c G O Y P C R y sz w K q=>?_;refine wpAny_assign_Name (jn P M r (.inl u) (v:=.ref D) U (λs8 Q z=>?_) (.inr u));obtain⟨F,l,E⟩:=z;have p:c≠F:=by
  rcases E with z | z
  · rw[z];exact y.symm
  · exact (w _ _ z).symm
 exact⟨G,C.sameBut l p,λh9 n=>⟨_,O,Q.turned (λb o m e=>(n.2 b m).trans e) R y.symm (.inr sz) w K,q⟩⟩
mutual
inductive TD (K:Fg) (H:Hp):V->PyData->Prop
  | bl (b:Bool):TD K H (.bl b) (.bool b)
  | int (i:Int):TD K H (.int i) (.int i)
  | str (x:Str):TD K H (.str x) (.str x)
  | tup {a:Addr} {xs:List V} {ds:PDs}:SqT K H a xs->TDs K H xs ds->TD K H (.ref a) (.tuple ds)
inductive TDs (K:Fg) (H:Hp):List V->PDs->Prop
  | nil:TDs K H [] []
  | cons {x:V} {d:PyData} {xs:List V} {ds:PDs}:TD K H x d->TDs K H xs ds->TDs K H (x::xs) (d::ds)
end
def Tk (H H':Hp):Prop:=∀ b xs,Rd H b (.tup xs)->Rd H' b (.tup xs)
section
variable {K:Fg} {H f H2:Hp}
def aA.tk (e:aA H f):Tk H f:=λb a h=>by
 rcases h with h | ⟨o,h⟩
 · exact .inl (e _ _ h)
 · exact .inr ⟨o,e _ _ h⟩
def Bh (h:H L=none\/∃ a,H L=some (.lst a)):Tk H (upd H L o):=λb d z=>by
 have ne:b≠L:=λe=>by
  rw[e] at z
  rcases z with z | ⟨_,z⟩ <;> rcases h with h | ⟨a,h⟩ <;> rw[h] at z <;> cases z
 rcases z with z | ⟨c,z⟩
 · exact .inl (by rw[ai ne];exact z)
 · exact .inr ⟨c,by rw[ai ne];exact z⟩
def SqT.tk (e:Tk H f) (h:SqT K H a xs):SqT K f a xs:=by
 rcases h with h | h
 · exact .inl (e _ _ h)
 · exact .inr h
end
def aK (s:aA H H2) (h:H p=none):aA H (upd H2 p o):=λb u e=>by
 rw[ai (aD e h)];exact s b u e
def smu (h:H L=none):aA H (upd H L o):=λb u e=>by rw[ai (aD e h)];exact e
end L2
namespace L2
open PySem PySem.Spec PyProof.Rows
def lN:typeLookup (.type "tuple") (dunderI "add")=pure none:=by rw[typeLookup_type];right
section
variable {X:Cx}
def sJ:PIp X .Add (w9 X.K):=by
 intro J s σ H x y v u Q I L R h;obtain⟨a,b,xs,ys,rfl,rfl,O,N,E,S,Y,T⟩:=h;cases L;cases R;obtain⟨c,f,p1,_⟩:=I.tuple O;obtain⟨k,l,P,_⟩:=I.tuple N;obtain⟨⟨c1,r,t1,o⟩,m,C,n,D⟩:=p1;obtain⟨⟨c2,p,t2,w⟩,i,B,t,G⟩:=P;simp only at C D B G;subst C D B G;have M:c.length+k.length<=sizeLine:=by rw[<- f.length,<- l.length];exact E
 have j:s.TypeIs (.ref a) "tuple":=⟨_,m,U⟩;have W:s.TypeIs (.ref b) "tuple":=⟨_,i,U⟩;refine wpAny_inplaceOp_concat j W lN noFill_tuple_add seq_tuple_add ?_;by_cases d:c=[]
 · exact call_meets PySem.F.slot_tuple_add j PySem.F.entry_tuple_add (PySem.F.args_tuple_add_2 _ _) (tuple_addW0 a b _ _ n t r p o w (by simp[d])) ⟨m,i,⟨.ref b,H,I,U,S (f.nil_iff.mp d)⟩⟩
 · by_cases g:k=[]
   · exact call_meets PySem.F.slot_tuple_add j PySem.F.entry_tuple_add (PySem.F.args_tuple_add_2 _ _) (tuple_addW1 a b _ _ n t r p o w (by simpa using d) (by simp[g])) ⟨m,i,⟨.ref a,H,I,U,Y (λz=>d (f.nil_iff.mpr z)) (l.nil_iff.mp g)⟩⟩
   · refine call_meets PySem.F.slot_tuple_add j PySem.F.entry_tuple_add (PySem.F.args_tuple_add_2 _ _) (tuple_addW2 a b _ _ n t r p o w (by simpa using d) (by simpa using g) (by grind)) ⟨m,i,?_⟩;have e:c.toArray++k.toArray=(c++k).toArray:=by simp
     rw[e];refine⟨.ref s.heap.objs.size,_,I.laid (λb Z q=>hpS _ q) ?M ?_,U,T (λz=>d (f.nil_iff.mpr z)) (λz=>g (l.nil_iff.mpr z)) _ (I.hok.fresh ?M)⟩;exact⟨by rw[lAp];exact E,_,f.append l,IsTup.new _ _⟩
end
structure Drw (prog:Program) (w:World) (i src:Addr) (xs:Array Value) (J:Nat->Heap->Prop):Prop where
  ext:∀ k h h',J k h->(∀ o,h.get? i=some o->h'.get? i=some o)->(∀ o,h.get? src=some o->h'.get? src=some o)->J k h'
  item:∀ (A:Around) (E:VSP) (s:Shared) (k:Nat) (x:Value) (Q:VSP),J k s.heap->xs[k]?=some x->(∀ h',J (k+1) h'->Heap.SameBut i s.heap h'->Q x {s with heap:=h'}) ->
    wpAny ?L A (Builtin.SmallTypes.nextOf (.ref i)) Q E s
  stop:∀ (A:Around) (E:VSP) (s:Shared) (k:Nat) (Q:VSP),A.handled=none->J k s.heap->xs[k]?=none->(∀ h' e,Heap.ExtBut i s.heap h'->(∃ o,h'.get? e=some o/\o.cls=.type "StopIteration")->E (.ref e) {s with heap:=h'}) ->
    wpAny ?L A (Builtin.SmallTypes.nextOf (.ref i)) Q E s
def fL {prog:Program} {w:World} (i t:Addr) (D:t≠i) (xs:Array Value):Drw prog w i t xs (λk h=>h.IsTupleIter i t k/\h.IsTuple t xs) where
 ext:=λk h G ⟨⟨o,a,r⟩,j,B,C⟩ y M=>⟨⟨o,y o a,r⟩,j,M j B,C⟩
 item:=by
  rintro A E s k x Q ⟨d,f⟩ I q;obtain⟨o,c,l,b⟩:=id d;obtain⟨v,e,p,u,g⟩:=id f;unfold Builtin.SmallTypes.nextOf;refine wB (wpAny_callSpecial?_slot d.typeIs F.slot_tuple_iterator_next (wpAny_call_entry F.slot_tuple_iterator_next d.typeIs F.entry_tuple_iterator_next ?_ (F.args_tuple_iterator_next_1 _)));ext a;refine wB (wpAny_setField c b ?B (wP ⟨x,U,wP (q _ ⟨?_,f.extBut (Heap.SameBut.update ..).extBut D⟩ (Heap.SameBut.update ..))⟩));exact⟨_,Heap.get?_update_self _ c (Obj.isFreed_of_fields (Obj.data_mapFields b _)),(Obj.cls_mapFields ..).trans l,by rw[Obj.data_mapFields b];simp[rawInt]⟩
 stop:=by
  rintro A E s k Q n ⟨d,f⟩ I q;obtain⟨o,c,l,b⟩:=id d;obtain⟨v,e,p,u,g⟩:=id f;unfold Builtin.SmallTypes.nextOf;refine wB (wpAny_callSpecial?_slot (name:=Str.ofString "__next__") d.typeIs F.slot_tuple_iterator_next (wpAny_call_entry F.slot_tuple_iterator_next d.typeIs F.entry_tuple_iterator_next ?_ (F.args_tuple_iterator_next_1 _)));ext a;refine wB (wpAny_rule (wB (wpAny_setField c b ?B ?_)));show wpAny _ _ (newExc (.type "StopIteration") []>>=_) _ _ _;refine wB ?_;simp only[newExc,newTuple];refine wB (wpAny_newObj_type ?_ (by size_fits));refine wB (m:=firstArgMember _ _) (wpAny_of_eq (a:=Value.none) (by first | rfl | (simp only[firstArgMember];rfl)) ?_);refine wpAny_newObj_type ?_ (by size_fits);simp only[raiseNew];refine wB (wpAny_handled ?_);first | rw[show A.in1.handled=none from n] | rw[n]
  refine wB (wP (wpAny_throw ?_));exact q _ _ (((Heap.SameBut.update ..).extBut.push _).push _) ⟨_,Heap.get?_push_size _ U,U⟩
def sT {prog:Program} {w:World} (i t:Addr) (p:t≠i) (xs:Array Value):Drw prog w i t xs (λk h=>h.IsListIter i t k/\h.IsList t xs) where
 ext:=λk h h' z m n=>by
  obtain⟨⟨o,a,r⟩,e,u,g⟩:=z;exact⟨⟨o,m o a,r⟩,e,n e u,g⟩
 item:=by
  rintro A E s k x Q ⟨d,b⟩ hx q;exact wpAny_nextOf_list_item d b hx λh' c f=>q h' ⟨c,b.extBut f.extBut p⟩ f
 stop:=by
  rintro A E s k Q j ⟨d,b⟩ hx q;exact wpAny_nextOf_list_end j d b hx q
section
variable {prog:Program} {w:World} {A:Around} {E:VSP} {s:Shared} {z TI TO i1 i2 l1 l2:Addr} {k:Nat} {xs ys:Array Value} {J1 J2:Nat->Heap->Prop} {a b x y:Value}
structure ZAp (z TI TO i1 i2 l1 l2:Addr):Prop where
  z_:TI≠z/\TO≠z/\i1≠z/\i2≠z/\l1≠z/\l2≠z
  o_:TI≠TO/\i1≠TO/\i2≠TO/\l1≠TO/\l2≠TO
  i_:TI≠i1/\TI≠i2/\i1≠i2
  l_:l1≠i1/\l1≠i2/\l2≠i1/\l2≠i2
def be {b:Addr} (e:Heap.SameBut b h h') (n:c≠b) (g:h.get? c=some o):h'.get? c=some o:=(e.2 c n).trans g
def tL {Q:VSP} (D:ZAp z TI TO i1 i2 l1 l2) (F:Drw prog w i1 l1 xs J1) (R2:Drw prog w i2 l2 ys J2) (hz:IsZip s.heap z TI TO .none) (Kt:IsPair s.heap TI (.ref i1) (.ref i2)) (Kx:IsPair s.heap TO a b)
 (h1:J1 k s.heap) (h2:J2 k s.heap) (hx:xs[k]?=some x) (hy:ys[k]?=some y)
 (hQ:∀ l,IsZip l z TI TO (rawInt s.heap.objs.size)->IsPair l TO x y->J1 (k+1) l->J2 (k+1) l->IsPair l s.heap.objs.size x y->(∀ c o,c≠z->c≠TO->c≠i1->c≠i2->s.heap.get? c=some o->l.get? c=some o)->Q ?V {s with heap:=l}) :
 wpAny ?L A (Builtin.«zip.__next__» ⟨[.ref z],[]⟩) (λfin s'=>∃ v,fin=.done (.ret v)/\Q v s') E s:=by
 obtain⟨z1,H,z3,W,z5,z6⟩:=D.z_;obtain⟨o1,P,I,o4,o5⟩:=D.o_;obtain⟨j1,j2,j3⟩:=D.i_;obtain⟨m1,m2,m3,m4⟩:=D.l_;show wpAny _ _ (field (.ref z) 2>>=_) _ _ _;refine wB (wpAny_field hz U (x:=.bool false) U ?_);refine wB (wpAny_field hz U U ?_);refine wB (wpAny_seqItems Kt U ?_);refine wB ?_;unfold Builtin.SmallTypes.ownedTupleIsFree;refine wB (wpAny_field hz U U (wP ?_));simp only[if_true];refine wB (wpAny_rule ?_);refine wB (wpAny_field hz U U ?_);refine wB (wpAny_setField_rec hz ?B λg1 S h=>?_);have q:=S;refine wB ?_;simp only[List.zipIdx_cons,List.zipIdx_nil,List.forIn_cons,List.forIn_nil];refine wB (wB (wpAny_onRaise ?_));have N:=F.ext k _ _ h1 (λo e=>be h z3 e) (λo e=>be h z5 e);refine wB (F.item _ _ {s with heap:=g1} k x _ N hx λg2 J12 p=>wP ?_);have t2:=be p (Ne.symm P) (be h H Kx);refine wB (wpAny_seqItems t2 U ?_);refine wB (wpAny_updateSeq_pair t2 λg3 t3 i=>?_);have O:=t3;refine wB (wpAny_letGo (wP ?_));refine wB (wB (wpAny_onRaise ?_));have Y:=R2.ext k _ _ h2 (λo e=>be i I (be p (Ne.symm j3) (be h W e))) (λo e=>be i o5 (be p m3 (be h z6 e)));refine wB (R2.item _ _ {s with heap:=g3} k y _ Y hy λg4 Z n=>wP ?_);have t4:IsPair g4 TO x b:=be n (Ne.symm I) O;refine wB (wpAny_seqItems t4 U ?_);refine wB (wpAny_updateSeq_pair t4 λd t5 m=>?_);have t:IsPair d TO x y:=t5;refine wB (wpAny_letGo (wP (wP ?_)));refine wB (wpAny_seqItems t U ?_);refine wB (wpAny_newTuple ?_);have sz:d.objs.size=s.heap.objs.size:=by rw[m.1,n.1,i.1,p.1,h.1]
 have B:IsZip d z TI TO .ellipsis:=be m (Ne.symm H) (be n (Ne.symm W) (be i (Ne.symm H) (be p (Ne.symm z3) q)));have kp:∀ c o,c≠z->c≠TO->c≠i1->c≠i2->s.heap.get? c=some o->d.get? c=some o:=λc o j G K L e=>be m G (be n L (be i G (be p K (be h j e))));have J:J1 (k+1) d:=F.ext _ _ _ J12 (λo e=>be m P (be n j3 (be i P e))) (λo e=>be m o4 (be n m2 (be i o4 e)));have J25:J2 (k+1) d:=R2.ext _ _ _ Z (λo e=>be m I e) (λo e=>be m o5 e);have lz:z<d.objs.size:=Heap.lt_size B;show wpAny _ _ (Builtin.SmallTypes.ownedTupleHandOut (.ref z) (.ref d.objs.size)>>=_) _ _ _;refine wB ?_;unfold Builtin.SmallTypes.ownedTupleHandOut;have T:IsZip (d.push {cls:=.type "tuple",data:=.seq #[x,y]}) z TI TO .ellipsis:=hpS _ B;refine wB (wpAny_setField_rec T ?B λg7 R r=>?_);have C:IsZip g7 z TI TO (rawInt d.objs.size):=R;refine wpAny_setField_rec C ?B λg8 zz8 u=>?_;have g:IsZip g8 z TI TO (rawInt d.objs.size):=zz8;have up:∀ c o,c≠z->d.get? c=some o->g8.get? c=some o:=λc o j e=>be u j (be r j (hpS _ e));have pT:IsPair g8 d.objs.size x y:=be u (Nat.ne_of_gt lz) (be r (Nat.ne_of_gt lz) (Heap.get?_push_size _ U));rw[sz] at g pT;refine wP ⟨_,U,?_⟩;show Q (.ref d.objs.size) _;rw[sz];exact hQ g8 g (up _ _ H t) (F.ext _ _ _ J (λo e=>up _ o z3 e) λo e=>up _ o z5 e) (R2.ext _ _ _ J25 (λo e=>up _ o W e) λo e=>up _ o z6 e) pT λc o j G K L e=>up c o j (kp c o j G K L e)
def v4 {Q:Fin->Shared->Prop} (R:A.handled=none) (D:ZAp z TI TO i1 i2 l1 l2) (F:Drw prog w i1 l1 xs J1) (R2:Drw prog w i2 l2 ys J2) (hz:IsZip s.heap z TI TO .none) (Kt:IsPair s.heap TI (.ref i1) (.ref i2)) (Kx:IsPair s.heap TO a b)
 (h1:J1 k s.heap) (h2:J2 k s.heap) (n:xs[k]?=none\/ys[k]?=none)
 (Z:∀ G e,(∀ c o,c≠z->c≠TO->c≠i1->c≠i2->s.heap.get? c=some o->G.get? c=some o)->(∃ o,G.get? e=some o/\o.cls=.type "StopIteration")->E (.ref e) {s with heap:=G}) :
 wpAny ?L A (Builtin.«zip.__next__» ⟨[.ref z],[]⟩) Q E s:=by
 obtain⟨z1,z2,H,z4,z5,z6⟩:=D.z_;obtain⟨o1,o2,o3,o4,o5⟩:=D.o_;obtain⟨j1,j2,j3⟩:=D.i_;obtain⟨m1,m2,m3,m4⟩:=D.l_;show wpAny _ _ (field (.ref z) 2>>=_) _ _ _;refine wB (wpAny_field hz U (x:=.bool false) U ?_);show wpAny _ _ (field (.ref z) 3>>=_) _ _ _;refine wB (wpAny_field hz U (x:=.ref TI) U ?_);refine wB (wpAny_seqItems Kt U ?_);show wpAny _ _ (Builtin.SmallTypes.ownedTupleIsFree (.ref z)>>=_) _ _ _;refine wB ?_;unfold Builtin.SmallTypes.ownedTupleIsFree;refine wB (wpAny_field hz U (x:=.none) U (wP ?_));simp only[if_true];refine wB (wpAny_rule ?_);refine wB (wpAny_field hz U (x:=.ref TO) U ?_);refine wB (wpAny_setField_rec hz ?B λB I j=>?_);have h:IsZip B z TI TO .ellipsis:=I;refine wB ?_;simp only[List.zipIdx_cons,List.zipIdx_nil,List.forIn_cons,List.forIn_nil];refine wB (wB (wpAny_onRaise ?_));show wpAny _ _ (Builtin.SmallTypes.nextOf (.ref i1)>>=_) _ _ _;have p:J1 k B:=F.ext k _ _ h1 (λo e=>be j H e) (λo e=>be j z5 e);cases J:xs[k]? with
 | none =>
  refine wB (F.stop _ _ {s with heap:=B} k _ R p J λK e i L=>?_);obtain⟨M,l,f⟩:=L;have r:IsZip K z TI TO .ellipsis:=i _ _ (Ne.symm H) h;have N:e≠z:=λq=>by subst q;rw[r] at l;cases l;simp at f
  refine wpAny_setField_rec r ?B λC _ m=>Z C e (λc o t _ O _ q=>be m t (i _ _ O (be j t q))) ⟨M,be m N l,f⟩
 | some x =>
  have hy:ys[k]?=none:=n.resolve_left (by rw[J];simp);refine wB (F.item _ _ {s with heap:=B} k x _ p J λK J12 i=>wP ?_);have t2:IsPair K TO a b:=be i (Ne.symm o2) (be j z2 Kx);refine wB (wpAny_seqItems t2 U ?_);refine wB (wpAny_updateSeq_pair t2 λC t3 m=>?_);refine wB (wpAny_letGo (wP ?_));refine wB (wB (wpAny_onRaise ?_));show wpAny _ _ (Builtin.SmallTypes.nextOf (.ref i2)>>=_) _ _ _;have P:J2 k C:=R2.ext k _ _ h2 (λo e=>be m o3 (be i (Ne.symm j3) (be j z4 e))) (λo e=>be m o5 (be i m3 (be j z6 e)));refine wB (R2.stop _ _ {s with heap:=C} k _ R P hy λg4 e K1 L=>?_);obtain⟨M,l,f⟩:=L;have u:IsZip g4 z TI TO .ellipsis:=K1 _ _ (Ne.symm z4) (be m (Ne.symm z2) (be i (Ne.symm H) h));have N:e≠z:=λq=>by subst q;rw[u] at l;cases l;simp at f
  refine wpAny_setField_rec u ?B λg5 _ JN=>Z g5 e (λc o t c2 O c4 q=>be JN t (K1 _ _ c4 (be m c2 (be i O (be j t q))))) ⟨M,be JN N l,f⟩
end
section
variable {X:Cx} {y:AOs} {C:St} {H:Hp} {s:Shared} {A:Heap} {t':Nat} {ch:List Addr} {o:HO}
def Inv.turnedAll (I:Inv X y C H s) (d:∀ b∈ch,jd X y H b) (f:∀ b u,b∉ch->s.heap.get? b=some u->A.get? b=some u):Inv X y C H {s with heap:=A,toks:=t'}:=by
 have g:∀ {b:Addr} {u:HO},H b=some u->b∉ch:=λ{b u} q z=>by rw[(d b z).1] at q;cases q
 refine I.step (λb e=>⟨(d b e).2.2.2.1,(d b e).2.1,(d b e).2.2.2.2.1,(d b e).2.2.2.2.2⟩) (λb u _ _ a z _=>f b u a z) (λb u _ _ a z _=>⟨u.slots,f b u a z⟩) (λ_ _ _ _ n=>n)
  (λb u a z=>⟨u,f b u a z⟩) (λ_ _ z=>z) (λ_ _ _ z=>z) (λb m z=>⟨#[],by rw[z];simp⟩) (λm l=>?_) (λb u z=>?_) I.bare
 · obtain⟨o,k,h,j,r⟩:=l;exact⟨o,k,h,f _ o (λz=>(d _ z).2.1 U) j,r⟩
 · refine (I.hok b u z).stay (λc v a i=>f c v ?_ i) (λ_ q=>q) λ_ _ q=>q
   rcases a with rfl | a
   · exact g z
   · exact g a
def Inv.turnedNew (I:Inv X y C H s) (f:∀ b∈ch,jd X y H b) (h:∀ b u,b∉ch->s.heap.get? b=some u->A.get? b=some u) (B:bV X.prog X.w (upd H s.heap.objs.size o) A s.heap.objs.size o) :
 Inv X y C (upd H s.heap.objs.size o) {s with heap:=A,toks:=t'}:=by
 have l:=I.hok.fresh ?M;have i:∀ {b:Addr} {u:HO},H b=some u->b∉ch:=λ{b u} q z=>by rw[(f b z).1] at q;cases q
 have g:∀ {b:Addr} {u:HO},H b=some u->b≠s.heap.objs.size:=λ{b u} q z=>by rw[z,l] at q;cases q
 refine I.step (λb d=>⟨(f b d).2.2.2.1,(f b d).2.1,(f b d).2.2.2.2.1,(f b d).2.2.2.2.2⟩) (λb u _ _ a z _=>h b u a z) (λb u _ _ a z _=>⟨u.slots,h b u a z⟩) (λb u _ z n=>by rw[ai (Nat.ne_of_lt (Heap.lt_size z))];exact n)
  (λb u a z=>⟨u,h b u a z⟩) (λb k z=>by rw[ai (g z)];exact z) (λb u v z=>by rw[ai (g z)];exact z) (λb x z=>⟨#[],by rw[ai (g z),z];simp⟩) (λm t=>?_) (λb u z=>?_) I.bare
 · obtain⟨o,p,j,m,r⟩:=t;exact⟨o,p,j,h _ o (λz=>(f _ z).2.1 U) m,r⟩
 · by_cases d:b=s.heap.objs.size
   · rw[d,pF] at z;cases z;rw[d];exact B
   · rw[ai d] at z;refine (I.hok b u z).stay (λc v a e=>h c v ?_ e) (λc e=>by rw[ai (g e)];exact e) λc k e=>by rw[ai (g e)];exact e
     rcases a with rfl | a
     · exact i z
     · exact i a
end
def bQ {h:Heap} (c:h.get? a=some oa) (e:h.get? b=some ob) (d:oa.cls≠ob.cls):a≠b:=λz=>by
 rw[z,e] at c;cases c;exact d U
def qg:bootBuiltins "zip"=some (.type "zip"):=by left
section
variable {prog:Program} {w:World} {A:Around} {E:VSP} {s:Shared} {z I C G H M N:Addr} {k:Nat} {xs ys:Array Value} {J K:Nat->Heap->Prop} {a b x y:Value}
def lj (D:ZAp z I C G H M N) (B:Drw prog w G M xs J) (R2:Drw prog w H N ys K) (hz:IsZip s.heap z I C .none) (p:IsPair s.heap I (.ref G) (.ref H)) (v:IsPair s.heap C a b)
 (g:J k s.heap) (t:K k s.heap) (q:xs[k]?=some x) (i:ys[k]?=some y)
 (n:∀ d,IsZip d z I C (rawInt s.heap.objs.size)->IsPair d C x y->J (k+1) d->K (k+1) d->IsPair d s.heap.objs.size x y->(∀ c o,c≠z->c≠C->c≠G->c≠H->s.heap.get? c=some o->d.get? c=some o)->Q (some ?V) {s with heap:=d}):
 wpAny ?L A (pyNext (.ref z)) Q E s:=by
 have e:s.TypeIs (.ref z) "zip":=⟨_,hz,U⟩;unfold pyNext;exact wB (wpAny_attempt (wpAny_callSpecial?_slot e F.slot_zip_next (wpAny_call_entry F.slot_zip_next e F.entry_zip_next (tL D B R2 hz p v g t q i λd j u r h m l=>wP (n d j u r h m l)) (F.args_zip_next_1 _))))
def mx (n:A.handled=none) (D:ZAp z I C G H M N) (v:Drw prog w G M xs J) (R2:Drw prog w H N ys K) (hz:IsZip s.heap z I C .none) (m:IsPair s.heap I (.ref G) (.ref H)) (u:IsPair s.heap C a b)
 (i:J k s.heap) (r:K k s.heap) (d:xs[k]?=none\/ys[k]?=none)
 (l:∀ f,(∀ c o,c≠z->c≠C->c≠G->c≠H->s.heap.get? c=some o->f.get? c=some o)->Q none {s with heap:=f}):wpAny ?L A (pyNext (.ref z)) Q E s:=by
 have g:s.TypeIs (.ref z) "zip":=⟨_,hz,U⟩;unfold pyNext;refine wB (wpAny_attempt (wpAny_callSpecial?_slot g F.slot_zip_next (wpAny_call_entry F.slot_zip_next g F.entry_zip_next (v4 n D v R2 hz m u i r d λL e p j=>?_) (F.args_zip_next_1 _))));obtain⟨o,q,t⟩:=j;exact wB (wpAny_isInstance ⟨o,q,t⟩ isSubtype_stop (wP (l _ p)))
end
abbrev zt1 (h:Heap) (a:Addr):Heap:=h.push {cls:=.type "tuple_iterator",data:=.fields #[.ref a,.int 0 0]}
abbrev zt2 (h:Heap) (a b:Addr):Heap:=zt1 (zt1 h a) b
abbrev zt3 (h:Heap) (a b:Addr):Heap:=(zt2 h a b).push {cls:=.type "tuple",data:=.seq #[.ref h.objs.size,.ref (zt1 h a).objs.size]}
abbrev zt4 (h:Heap) (a b:Addr):Heap:=(zt3 h a b).push {cls:=.type "tuple",data:=.seq #[.none,.none]}
abbrev zt5 (h:Heap) (a b:Addr):Heap:=(zt4 h a b).push {cls:=.type "zip",data:=.fields #[.none,.bool false,.bool false,.ref (zt2 h a b).objs.size,.ref (zt3 h a b).objs.size]}
def qM (a b:Addr) (xs ys:Array Value):Meets (Builtin.«zip.__new__» ⟨[.type "zip",.ref a,.ref b],[]⟩) (λ_ R s=>s.heap.IsTuple a xs/\s.heap.IsTuple b ys/\R (.ok (.ret (.ref (zt4 s.heap a b).objs.size))) {s with heap:=zt5 s.heap a b}) :=
 .of_wp λprog w A R s h=>by
  obtain⟨hp,g,d,tk,os⟩:=s;obtain⟨ha,hb,h⟩:=h;have sub:=sub_zip;have e1:=ha;have e2:Heap.IsTuple (Shared.heap ⟨zt1 hp a,g,d,tk,os⟩) b ys:=Heap.IsTuple.push hb _
  wp_walk using wpAny_pyIter_tuple e1,wpAny_pyIter_tuple e2
  exact⟨_,U,h⟩
def uN {prog:Program} {w:World} {A:Around} {E:VSP} {s:Shared} {a b:Addr} {xs ys:Array Value} {Q:VSP} (t:s.heap.IsTuple a xs) (u:s.heap.IsTuple b ys)
 (h:∀ d,IsZip d (s.heap.objs.size+4) (s.heap.objs.size+2) (s.heap.objs.size+3) .none->IsPair d (s.heap.objs.size+2) ?V (.ref (s.heap.objs.size+1))->IsPair d (s.heap.objs.size+3) .none .none ->
   d.IsTupleIter s.heap.objs.size a 0->d.IsTupleIter (s.heap.objs.size+1) b 0->(∀ c o,s.heap.get? c=some o->d.get? c=some o)->Q (.ref (s.heap.objs.size+4)) {s with heap:=d}) :
 wpAny ?L A (call (.type "zip") [.ref a,.ref b]) Q E s:=by
 refine callType_new F.called_zip ?G (F.typeCall_zip_2 _ _) (F.newCall_zip_2 _ _) (λf=>F.args_object_init_3 f _ _) F.entry_zip_new (qM a b xs ys) ⟨t,u,?_⟩;have g:(zt1 s.heap a).objs.size=s.heap.objs.size+1:=Heap.size_push ..;have i:(zt2 s.heap a b).objs.size=s.heap.objs.size+2:=by rw[Heap.size_push,g]
 have j:(zt3 s.heap a b).objs.size=s.heap.objs.size+3:=by rw[Heap.size_push,i]
 have m:(zt4 s.heap a b).objs.size=s.heap.objs.size+4:=by rw[Heap.size_push,j]
 have n:∀ {c:Addr} {o:Obj},(zt1 s.heap a).get? c=some o->(zt5 s.heap a b).get? c=some o:=λe=>hpS _ (hpS _ (hpS _ (hpS _ e)));have k:(zt5 s.heap a b).get? (zt4 s.heap a b).objs.size=some _:=Heap.get?_push_size _ rfl;have p:(zt5 s.heap a b).get? (zt3 s.heap a b).objs.size=some _:=hpS _ (Heap.get?_push_size _ U);have q:(zt5 s.heap a b).get? (zt2 s.heap a b).objs.size=some _:=hpS _ (hpS _ (Heap.get?_push_size _ U));have r:(zt5 s.heap a b).get? (zt1 s.heap a).objs.size=some _:=hpS _ (hpS _ (hpS _ (Heap.get?_push_size _ U)));have v:(zt5 s.heap a b).get? s.heap.objs.size=some _:=n (Heap.get?_push_size _ U);show _/\_;rw[i,j,m] at k;rw[g,i] at q;rw[j] at p;rw[g] at r;rw[m];exact⟨⟨_,k,U⟩,h _ k q p ⟨_,v,U,U⟩ ⟨_,r,U,U⟩ λc o e=>n (hpS _ e)⟩
def uV (K:Fg) (a b:Addr):It :=
  ⟨λi H=>∃ xs ys x y,SqT K H a xs/\SqT K H b ys/\xs[i]?=some x/\ys[i]?=some y,λi H v H'=>∃ t x y,v=.ref t/\H t=none/\H'=upd H t (.tup [x,y])/\(∀ xs,SqT K H a xs->xs[i]?=some x)/\∀ ys,SqT K H b ys->ys[i]?=some y,
    λi H=>∃ xs ys,SqT K H a xs/\SqT K H b ys/\(xs.length<=i\/ys.length<=i)⟩
def tU {P:Program} {w:World} {K:Fg} {Ic:List Expr} {k} {pos:Pos} (a b z TI TO l m:Addr) (h0:z≠TI/\z≠TO/\z≠l/\z≠m/\TI≠TO/\TI≠l/\TI≠m/\TO≠l/\TO≠m/\l≠m) (Z:a≠TO/\b≠TO) :
 kh P w K (.Tuple Ic k pos) (uV K a b) [z,TI,TO,l,m] z (λi h=>IsZip h z TI TO .none/\IsPair h TI (.ref l) (.ref m)/\(∃ u v,IsPair h TO u v)/\h.IsTupleIter l a i/\h.IsTupleIter m b i) where
 mem:=by simp
 obj:=λi h B c g=>by
  obtain⟨n,C,⟨u,v,J⟩,⟨o4,A,_,d4⟩,⟨o5,t,_,d5⟩⟩:=B;simp only[List.mem_cons,nMN,or_false] at g
  rcases g with rfl | rfl | rfl | rfl | rfl
  · exact⟨_,n,λv z=>by cases z⟩
  · exact⟨_,C,λv z=>by cases z⟩
  · exact⟨_,J,λv z=>by cases z⟩
  · exact⟨_,A,λv z=>by rw[d4] at z;cases z⟩
  · exact⟨_,t,λv z=>by rw[d5] at z;cases z⟩
 keep:=λi h h' B k=>by
  obtain⟨n,C,⟨u,v,J⟩,⟨o4,A,r4⟩,⟨o5,t,r5⟩⟩:=B;exact⟨k z ?B _ n,k TI ?B _ C,⟨u,v,k TO ?B _ J⟩,⟨o4,k l ?B _ A,r4⟩,⟨o5,k m ?B _ t,r5⟩⟩
 item:=by
  intro X hP hw hK g i G s σ H E I hf B hg;subst hP hw hK;obtain⟨xs,ys,x,y,Jk,Jp,hx,hy⟩:=hg;obtain⟨N,rv,p,hz⟩:=I.tuple Jk;obtain⟨HQ,K0,S,hz2⟩:=I.tuple Jp;obtain⟨u,hu,ru⟩:=rv.get hx;obtain⟨v,hv,rv'⟩:=K0.get hy;obtain⟨n,C,⟨u0,v0,J⟩,A,t⟩:=B;obtain⟨n1,n2,n3,n4,n5,n6,n7,n8,n9,K5⟩:=h0;obtain⟨ol,j,M,_⟩:=id p;obtain⟨ol2,e,L,_⟩:=id S;obtain⟨o4,Q,W,d4⟩:=id A;obtain⟨o5,R,T,d5⟩:=id t;have D:ZAp z TI TO l m a b:=⟨⟨n1.symm,n2.symm,n3.symm,n4.symm,bQ j n (by rw[M];simp),bQ e n (by rw[L];simp)⟩,⟨n5,n8.symm,n9.symm,Z.1,Z.2⟩,⟨n6,n7,K5⟩,
    ⟨bQ j Q (by rw[M,W];simp),bQ j R (by rw[M,T];simp),bQ e Q (by rw[L,W];simp),bQ e R (by rw[L,T];simp)⟩⟩
  refine lj D (fL l a D.l_.1 N.toArray) (fL m b D.l_.2.2.2 HQ.toArray) n C J ⟨A,p⟩ ⟨t,S⟩ (by simpa using hu) (by simpa using hv) λh' e1 e2 e3 e4 e5 e7=>?_;refine⟨_,U,wpAny_letOwnedTupleGo_zip e1 λF f1 O=>?_⟩;have lz:=Heap.lt_size n;have keep:∀ c o,c∉[z,TI,TO,l,m]->s.heap.get? c=some o->F.get? c=some o:=λc o g q=>by
   simp only[List.mem_cons,nMN,or_false,not_or] at g;exact (O.2 c g.1).trans (e7 c o g.1 g.2.2.1 g.2.2.2.1 g.2.2.2.2 q)
  have hT:F.get? s.heap.objs.size=some {cls:=.type "tuple",data:=.seq #[u,v]}:=(O.2 _ (Nat.ne_of_gt lz)).trans e5;have I2:Inv X G σ (upd H s.heap.objs.size (.tup [x,y])) {s with heap:=F}:=I.turnedNew (t':=s.toks) hf keep ⟨jk,[u,v],.cons ru (.cons rv' .nil),⟨_,hT,U,_,U⟩⟩;refine⟨.ref s.heap.objs.size,_,I2,U,⟨_,x,y,U,I.hok.fresh ?M,U,λq hq=>by rw[I.tuple_inj hq Jk];exact hx,λq hq=>by rw[I.tuple_inj hq Jp];exact hy⟩,⟨f1,?_,⟨u,v,(O.2 TO D.z_.2.1).trans e2⟩,?_,?_⟩,λc g=>?_⟩
  · exact (O.2 TI D.z_.1).trans (e7 TI _ D.z_.1 D.o_.1 D.i_.1 D.i_.2.1 C)
  · obtain⟨⟨o,q,r⟩,_⟩:=e3;exact⟨o,(O.2 l D.z_.2.2.1).trans q,r⟩
  · obtain⟨⟨o,q,r⟩,_⟩:=e4;exact⟨o,(O.2 m D.z_.2.2.2.1).trans q,r⟩
  · have hlt:c<s.heap.objs.size:=by
     simp only[List.mem_cons,nMN,or_false] at g
     rcases g with rfl | rfl | rfl | rfl | rfl
     · exact lz
     · exact Heap.lt_size C
     · exact Heap.lt_size J
     · exact Heap.lt_size Q
     · exact Heap.lt_size R
    rw[ai (Nat.ne_of_lt hlt)];exact (hf c g).1
 done:=by
  intro X hP hw hK g i G s σ H E I hf B hg;subst hP hw hK;obtain⟨xs,ys,Jk,Jp,Y⟩:=hg;obtain⟨N,rv,p,hz⟩:=I.tuple Jk;obtain⟨HQ,K0,S,hz2⟩:=I.tuple Jp;obtain⟨n,C,⟨u0,v0,J⟩,A,t⟩:=B;obtain⟨n1,n2,n3,n4,n5,n6,n7,n8,n9,K5⟩:=h0;obtain⟨ol,j,M,_⟩:=id p;obtain⟨ol2,e,L,_⟩:=id S;obtain⟨o4,Q,W,d4⟩:=id A;obtain⟨o5,R,T,d5⟩:=id t;have D:ZAp z TI TO l m a b:=⟨⟨n1.symm,n2.symm,n3.symm,n4.symm,bQ j n (by rw[M];simp),bQ e n (by rw[L];simp)⟩,⟨n5,n8.symm,n9.symm,Z.1,Z.2⟩,⟨n6,n7,K5⟩,
    ⟨bQ j Q (by rw[M,W];simp),bQ j R (by rw[M,T];simp),bQ e Q (by rw[L,W];simp),bQ e R (by rw[L,T];simp)⟩⟩
  have e1:=rv.length;have e2:=K0.length;refine mx (I.ok.hd g) D (fL l a D.l_.1 N.toArray) (fL m b D.l_.2.2.2 HQ.toArray) n C J ⟨A,p⟩ ⟨t,S⟩ (Y.imp (λq=>by simp;lia) λq=>by simp;lia) λh' kp=>⟨U,I.turnedAll (t':=s.toks) hf λc o g q=>?_⟩;simp only[List.mem_cons,nMN,or_false,not_or] at g;exact kp c o g.1 g.2.2.1 g.2.2.2.1 g.2.2.2.2 q
 self:=λ_ _ _ _ _ B h=>wpAny_pyIter_zip B.1 h
def F5 (K:Fg) (ta:TA):TI:=λσ H R=>ta σ H λvs H1=>∃ a b xs ys,vs=[.ref a,.ref b]/\SqT K H1 a xs/\SqT K H1 b ys/\R (uV K a b) H1
def sf {T:List Expr} {k} {g:Pos} {p d:Pos} (Y:Gl X "zip") (O:X.mg "zip"=none) (L:PA X [e1,e2] ta) (F:starEach [e1,e2] X.env=[(false,eval e1 X.env),(false,eval e2 X.env)]:=by rfl) (j:starEach [e2] X.env=[(false,eval e2 X.env)]:=by rfl):
 PI X (.Tuple T k g) (.Call (.Name "zip" p) [e1,e2] [] d) (F5 X.K ta):=by
 intro l s σ H R I h;refine Call_ (e8 I Y O qg (PyProof.Rows.callWith_type1 (thn (L d l s σ H _ I h) λus m f=>?_) (by rw[F,j]) (by rw[j];rfl)));obtain⟨vs,J,i,W,q1⟩:=f;obtain⟨a,b,xs,ys,e,Q,G,q⟩:=q1;subst e;obtain⟨u,v,rfl,ru,C⟩:=W.two;cases ru;cases C;obtain⟨S,C,p1,hz⟩:=i.tuple Q;obtain⟨HQ,K0,x,P⟩:=i.tuple G;have A:a<m.heap.objs.size:=by obtain⟨o,e,_⟩:=id p1;exact Heap.lt_size e
 have E:b<m.heap.objs.size:=by obtain⟨o,e,_⟩:=id x;exact Heap.lt_size e
 refine uN p1 x λh' r w y t D M=>?_;refine wpAny_pyIter_zip r ?_;have N:=i.kept (t':=m.toks) M;generalize Z:m.heap.objs.size=n at r w y t D A E;refine⟨n+4,[n+4,n+2,n+3,n,n+1],_,uV X.K a b,J,U,N,tU a b (n+4) (n+2) (n+3) n (n+1) (by grind) ⟨Nat.ne_of_lt (Nat.lt_add_right 3 A),Nat.ne_of_lt (Nat.lt_add_right 3 E)⟩,⟨r,w,⟨_,_,y⟩,t,D⟩,λc z=>?_,q⟩;have B:m.heap.objs.size<=c:=by
  rw[Z];simp only[List.mem_cons,nMN,or_false] at z
  rcases z with rfl | rfl | rfl | rfl | rfl
  · exact Nat.le_add_right _ _
  · exact Nat.le_add_right _ _
  · exact Nat.le_add_right _ _
  · exact Nat.le_refl _
  · exact Nat.le_add_right _ _
 exact i.fpOk B (i.hok.fresh B)
def bj.zipT {K:Fg} {a b:Addr} {xs ys:List V} {g:TG} {tc:TT} {te:TE} {Q:VK} {l:St} {z:Hp} {L:Addr} (A:xs.length=ys.length) (f:Nat->St->Hp->Prop) (E:f 0 l (upd z L (.lst []))) (F:∀ i d H,i<=xs.length->f i d H->SqT K H a xs/\SqT K H b ys)
 (G:∀ i x y d H t,xs[i]?=some x->ys[i]?=some y->f i d H->H t=none->g (.ref t) d (upd H t (.tup [x,y])) λe I=>tc e I λc B=>if c=true then te e B λv C=>∃ p,C L=some (.lst p)/\p.length<sizeLine/\f (i+1) e (upd C L (.lst (p++[v]))) else f (i+1) e B)
 (J:∀ d H,f xs.length d H->Q (.ref L) H):bj (uV K a b) g tc te Q l z L:=by
 refine⟨λi m d H=>i<=xs.length/\m=xs.length-i/\f i d H,⟨_,Nat.zero_le _,U,E⟩,λi m d H h=>?_⟩;obtain⟨M,N,r⟩:=h;obtain⟨s,u⟩:=F i d H M r;by_cases j:i<xs.length
 · have n:i<ys.length:=by lia
   refine .inr ⟨⟨xs,ys,xs[i],ys[i],s,u,by simp[j],by simp[n]⟩,λo w=>f (i+1) o w,λo w q=>⟨xs.length-(i+1),by rw[N];exact Nat.sub_succ_lt_self _ _ j,j,U,q⟩,?_⟩;rintro v w ⟨t,x,y,rfl,O,rfl,P,R⟩;exact G i x y d H t (P xs s) (R ys u) r O
 · have:i=xs.length:=by lia
   subst this;exact .inl ⟨⟨xs,ys,s,u,.inl ?M⟩,J d H r⟩
def fg {p a:Pos} (b:X.mg "tuple"=none) (d:PA X (e::es) t) (c:Gl X "tuple":=by rfl)
 (he:starEach (e::es) X.env=?U::starEach es X.env:=by rfl) (hpl:(backTo a (starEach es X.env)).any (·.1)=false:=by rfl):
 PE X (.Call (.Name "tuple" p) (e::es) [] a) (tCB (vU X.K) t):=i7 lU c b jU d (he:=he) (hpl:=hpl)
def lB (xs:List V) (k:Nat):gP xs (some ((k:Nat):Int)) none=xs.drop k:=by
 unfold gP;rw[HT.oM,HT.rP];by_cases h:k<=xs.length
 · rw[Nat.min_eq_left h,List.take_of_length_le (by grind)]
 · rw[Nat.min_eq_right (by lia),List.drop_of_length_le ?M,List.drop_of_length_le (by lia)];exact List.take_nil
def aV.zipT {K:Fg} {a b:Addr} {xs ys:List V} {g:TG} {r:TS} {D:iK} {c:St} {H:Hp} (s:xs.length=ys.length) (d:Nat->St->Hp->Prop) (w:d 0 c H) (A:∀ i c H,i<=xs.length->d i c H->SqT K H a xs/\SqT K H b ys)
 (B:∀ i x y c H t,xs[i]?=some x->ys[i]?=some y->d i c H->H t=none->g (.ref t) c (upd H t (.tup [x,y])) λk C=>r {D with nx:=d (i+1),ct:=d (i+1),bk:=D.nx} k C) (E:∀ c H,d xs.length c H->D.nx c H):aV (uV K a b) g r D c H:=by
 refine⟨λi m c H=>i<=xs.length/\m=xs.length-i/\d i c H,⟨_,Nat.zero_le _,U,w⟩,λi m c H z=>?_⟩;obtain⟨F,G,l⟩:=z;obtain⟨n,o⟩:=A i c H F l;by_cases e:i<xs.length
 · have h:i<ys.length:=by lia
   refine .inr ⟨⟨xs,ys,xs[i],ys[i],n,o,by simp[e],by simp[h]⟩,λj p=>d (i+1) j p,λj p q=>⟨xs.length-(i+1),by rw[G];exact Nat.sub_succ_lt_self _ _ e,e,U,q⟩,?_⟩;rintro v p ⟨t,x,y,rfl,I,rfl,J,L⟩;exact B i x y c H t (J xs n) (L ys o) l I
 · have:i=xs.length:=by lia
   subst this;exact .inl ⟨⟨xs,ys,n,o,.inl ?M⟩,E c H l⟩
def pJ {c A B:Prop} [Decidable c] (h:¬ c) (b:B):if c then A else B:=by rw[if_neg h];exact b
def pK {c A B:Prop} [Decidable c] (h:c) (a:A):if c then A else B:=by rw[if_pos h];exact a
def aV.zipTN {K:Fg} (h:xs.length=ys.length) (e:Nat->St->Hp->Prop) (l:e 0 σ H) (s:∀ i σ H,i<=xs.length->e i σ H->SqT K H a xs/\SqT K H b ys)
 (m:∀ i x y σ H t (N B:St->Hp->Prop),(∀ f j,e (i+1) f j->N f j)->xs[i]?=some x->ys[i]?=some y->e i σ H->H t=none->g (.ref t) σ (upd H t (.tup [x,y])) λσ2 o=>tb ⟨N,r,B,N⟩ σ2 o) (v:∀ σ H,e xs.length σ H->d σ H):aV (uV K a b) g tb ⟨d,r,k,c⟩ σ H :=
 aV.zipT h e l s (λi x y σ H t w n p u=>m i x y σ H t _ _ (λ_ _ z=>z) w n p u) v
end L2
namespace HT
open PySem PySem.Spec PyProof.Rows
section
variable {prog:Program} {w:World} {A:Around} {E:VSP} {s:Shared}
def ia {lo hi:Option Int} {Q:VSP} (b:IsTup s.heap t l) (d:s.heap.IsSliceOf sl q r .none) (pl:IsPart q lo) (j:IsPart r hi)
 (e:sIx l.size 0 lo=0/\sIx l.size l.size hi=l.size) (h:Q (.ref t) s):wpAny ?L A (getItem (.ref t) (.ref sl)) Q E s:=by
 obtain⟨i,f,g,k⟩:=id d;have c:s.TypeIs (.ref sl) "slice":=⟨i,f,g⟩;unfold getItem
 try with_reducible refine wpAny_holding ?_
 first | refine wB (wP ?_) | skip
 refine wB (wpAny_sequenceKey b.typeIs ?G ?_);refine wB (wpAny_callSpecial?_slot b.typeIs PyProof.Rows.slot_tuple_getitem
   (wpAny_call_entry PyProof.Rows.slot_tuple_getitem b.typeIs entry_tuple_getitem ?_ (args_tuple_getitem _ _)))
 show wpAny _ _ (Builtin.Tuple.tupleItemsOf (.ref t)>>=_) _ _ s;refine wB (tupleItemsOf_ b ?_);refine wB (wpAny_typeOf c ?_);rw[if_pos ?G];refine wB (fS d pl j ?_);have a:((((sIx l.size 0 lo:Nat):Int)==0&&(1:Int)==1&&(sIx l.size l.size hi-sIx l.size 0 lo)==l.size)=true):=by
  rw[e.1,e.2];simp
 show wpAny _ _ (if (((sIx l.size 0 lo:Nat):Int)==0&&(1:Int)==1&&(sIx l.size l.size hi-sIx l.size 0 lo)==l.size)=true then _ else _) _ _ s;rw[if_pos a];unfold Builtin.Tuple.tupleIsExact;refine wB (wB (wpAny_typeOf b.typeIs (wP ?_)));rw[if_pos ?G];exact wB (wpAny_rule (wP ⟨_,U,wP h⟩))
end
end HT
namespace L2
open PySem PySem.Spec PyProof.Rows
section
variable {X:Cx}
def vX (K:Fg):V->Option Int->Option Int->Hp->VK->Prop:=λx lo hi H Q=>∃ a xs,x=.ref a/\SqT K H a xs /\
  (gP xs lo hi=xs->Q (.ref a) H)/\∀ p,H p=none->Q (.ref p) (upd H p (.tup (gP xs lo hi)))
def eA:SlR X (vX X.K):=by
 intro d s σ H x v w y p j u Q I n l i m h;obtain⟨a,b,rfl,k,q,t⟩:=h;by_cases f:HT.sIx b.length 0 p=0/\HT.sIx b.length b.length j=b.length
 · cases n;obtain⟨g,r,o,z⟩:=I.tuple k;have c:g.toArray.size=b.length:=by rw[List.size_toArray];exact r.length.symm
   refine⟨"tuple",_,PyProof.Rows.slot_tuple_getitem.lookup,o.typeIs,?_⟩;refine HT.ia o l i m (by rw[c];exact f) ⟨.ref a,H,I,U,q ?_⟩;unfold gP;rw[f.1,f.2];simp
 · exact qz d s σ H _ v w y p j u Q I n l i m ⟨a,b,U,k,f,t⟩
end
section
variable {X:Cx} {e F:Expr} {te:TE} {i:TO} {p2 pos:Pos}
def FY (K:Fg) (te:TE) (i:TO):TE:=λσ H Q=>te σ H λx H1=>i σ H1 λo H2=>∃ a xs,o=some (-1)/\x=.ref a/\SqL K H2 a xs/\∀ p,H2 p=none->Q (.ref p) (upd H2 p (.lst xs.reverse))
def b7.reverse':∀ {xs:List V} {a:List Value},b7 xs a->b7 xs.reverse a.reverse
 := by
  intro xs a h
  induction h with
  | nil=>exact .nil
  | cons r t b =>
   rw[List.reverse_cons,List.reverse_cons];exact b7.append b (.cons r .nil)
def BE (he:PE X e te) (M:PO X (some F) i):PE X (.Subscript e (.Slice none none (some F) P) N) (FY X.K te i):=by
 intro b s E H Q I h;refine Subscript_ (thn (he b s E H _ I h) λv n c=>?_);obtain⟨x,z,A,t,u⟩:=c;refine wpAny_Slice ?_;rw[evalPart_none];refine wP (wP (thn (M b n E z _ A u) ?_));rintro m j ⟨o,B,C,w,a,D,rfl,rfl,p,q⟩;cases t;have f:Inv X b E B {j with heap:=j.heap.push {cls:=.type "slice",data:=.fields #[.none,.none,m]}}:=C.kept λb l q=>hpS _ q;obtain⟨d,r,k,y⟩:=f.list p;have g:=r.length;refine tail_any k.isList.typeIs slot_list_getitem.lookup ?_ (by with_unfolding_all rfl);refine wpAny_getItem_list_slice k.isList (Heap.IsSliceOf.new ..) .none .none w ?G ?_ (by grind);rw[PySem.W.krv_pick];refine⟨.ref _,_,f.laid (λb l q=>hpS _ q) ?M ?_,U,q _ (f.hok.fresh ?M)⟩;exact⟨by rw[List.length_reverse];exact y,d.reverse,0,r.reverse',Heap.get?_push_size _ U⟩
end
end L2
namespace HT
open PySem PySem.Spec PyProof.Rows
def rj (n:Nat):Builtin.Slice.sliceAdjust none none (-1) (n:Int)=((n:Int)-1,-1):=rfl
def qF (n:Nat):Builtin.Slice.slicePlaces ((n:Int)-1) (-1) (-1)=n:=by
 unfold Builtin.Slice.slicePlaces;rw[if_neg ?G];by_cases h:(n:Int)-1>-1
 · grind
 · rw[if_neg h];omega
def wg (xs:Array Value):((List.range xs.size).filterMap λ(m:Nat)=>xs[(((xs.size:Int)-1)+(m:Int)*(-1)).toNat]?).toArray=xs.toList.reverse.toArray:=by
 have e:(List.range xs.size).filterMap (λ(m:Nat)=>xs[((xs.size-1)+(m:Int)*(-1)).toNat]?)=((List.range xs.size).map λk=>xs.size-1-k).filterMap (xs[·]?):=by
  rw[List.filterMap_map];have g:∀ l:List Nat,(∀ m∈l,m<xs.size)->l.filterMap (λ(m:Nat)=>xs[((xs.size-1)+(m:Int)*(-1)).toNat]?)=l.filterMap ((xs[·]?)∘λk=>xs.size-1-k):=by
   intro l
   induction l with
   | nil=>intro _;rfl
   | cons m l d =>
    intro h;have a:=h m mCS;have c:xs[((xs.size-1)+(m:Int)*(-1)).toNat]?=((xs[·]?)∘λk=>xs.size-1-k) m:=by
     show _=xs[xs.size-1-m]?;congr 1;omega
    rw[List.filterMap_cons,List.filterMap_cons,c,d λx b=>h x (mCM _ b)]
  exact g _ λm a=>List.mem_range.mp a
 rw[e,PySem.W.krv_range,List.filterMap_reverse,PySem.W.krv_all]
section
variable {prog:Program} {w:World} {A:Around} {E:VSP} {s:Shared}
def jq {n:Nat} (d:s.heap.IsSliceOf sl .none .none i) (c:IsPart i (some (-1)))
 (h:Q ((n:Int)-1,-1,n) s):wpAny ?L A (Builtin.Slice.sliceApplied (.ref sl) (pure (n:Int))) Q E s:=by
 obtain⟨f,a,e,b⟩:=id d;unfold Builtin.Slice.sliceApplied Builtin.Slice.sliceFields;refine wB (wB (wpAny_field a b U (wB (wpAny_field a b (x:=.none) U (wB (wpAny_field a b U (wP ?_)))))));refine wB (io c ?_);rw[if_neg ?G];refine wB (slicePart_none (wB (slicePart_none (wB (wP ?_)))));show wpAny _ _ (match Builtin.Slice.sliceAdjust none none (-1) (n:Int) with | (lo,j)=>pure (lo,(-1:Int),Builtin.Slice.slicePlaces lo j (-1))) _ _ s;rw[rj n];show wpAny _ _ (pure ((n:Int)-1,(-1:Int),Builtin.Slice.slicePlaces ((n:Int)-1) (-1) (-1))) _ _ s;rw[qF];exact wP h
def j0 {Q:VSP} (a:IsTup s.heap t e) (d:s.heap.IsSliceOf sl .none .none v) (f:IsPart v (some (-1)))
 (h:Q ?V {s with heap:=s.heap.push {cls:=.type "tuple",data:=.seq e.toList.reverse.toArray}})
 (o:e.size<=sizeLine):wpAny ?L A (getItem (.ref t) (.ref sl)) Q E s:=by
 have b:sizeOk (.seq e.toList.reverse.toArray):=by
  show e.toList.reverse.toArray.size<=sizeLine;rw[List.size_toArray,List.length_reverse,Array.length_toList];exact o
 obtain⟨k,g,i,l⟩:=id d;have c:s.TypeIs (.ref sl) "slice":=⟨k,g,i⟩;unfold getItem
 try with_reducible refine wpAny_holding ?_
 first | refine wB (wP ?_) | skip
 refine wB (wpAny_sequenceKey a.typeIs ?G ?_);refine wB (wpAny_callSpecial?_slot a.typeIs PyProof.Rows.slot_tuple_getitem
   (wpAny_call_entry PyProof.Rows.slot_tuple_getitem a.typeIs entry_tuple_getitem ?_ (args_tuple_getitem _ _)))
 show wpAny _ _ (Builtin.Tuple.tupleItemsOf (.ref t)>>=_) _ _ s;refine wB (tupleItemsOf_ a ?_);refine wB (wpAny_typeOf c ?_);rw[if_pos ?G];refine wB (jq d f ?_);have j:¬ ((((e.size:Int)-1)==0&&(-1)==1&&e.size==e.size)=true):=by
  rw[show ((-1)==1)=false from rfl,Bool.and_false,Bool.false_and]
  decide
 show wpAny _ _ (if (((e.size:Int)-1)==0&&(-1:Int)==1&&e.size==e.size)=true then _ else _) _ _ s;rw[if_neg j,wg]
 first
  | exact wB (wpAny_newObj_type (wP ⟨_,U,wP h⟩) b)
  | exact wB (wpAny_newObj_type (wB (wP (wP ⟨_,U,wP h⟩))) b)
  | exact wB (wB (wpAny_newObj_type (wP (wP ⟨_,U,wP h⟩)) b))
  | exact wB (wB (wpAny_newObj_type (wP ⟨_,U,wP h⟩) b))
end
end HT
namespace L2
open PySem PySem.Spec PyProof.Rows
section
variable {X:Cx} {e E:Expr} {te:TE} {i:TO} {p2 pos:Pos}
inductive B7 (K:Fg) (x:V) (o:Option Int) (H:Hp) (Q:VK):Prop
  | mk (a:Addr) (xs:List V) (h1:o=some (-1)) (h2:x=.ref a) (h3:SqT K H a xs) (q:∀ p,H p=none->Q (.ref p) (upd H p (.tup xs.reverse))):B7 K x o H Q
def CU (K:Fg) (te:TE) (i:TO):TE:=λσ H Q=>te σ H λx H1=>i σ H1 λo H2=>B7 K x o H2 Q
def zd (he:PE X e te) (M:PO X (some E) i):PE X (.Subscript e (.Slice none none (some E) P) N) (CU X.K te i):=by
 intro b s F H Q I h;refine Subscript_ (thn (he b s F H _ I h) λv n c=>?_);obtain⟨x,z,A,t,u⟩:=c;refine wpAny_Slice ?_;rw[evalPart_none];refine wP (wP (thn (M b n F z _ A u) ?_));rintro m j ⟨o,B,C,w,a,D,rfl,rfl,p,q⟩;cases t;have f:Inv X b F B {j with heap:=j.heap.push {cls:=.type "slice",data:=.fields #[.none,.none,m]}}:=C.kept λb l q=>hpS _ q;obtain⟨d,r,k,y⟩:=f.tuple p;have g:=r.length;refine tail_any k.typeIs PyProof.Rows.slot_tuple_getitem.lookup ?_ (by with_unfolding_all rfl);refine HT.j0 k (Heap.IsSliceOf.new ..) w ?_ (by grind);refine⟨.ref _,_,f.laid (λb l q=>hpS _ q) ?M ?_,U,q _ (f.hok.fresh ?M)⟩;exact⟨by rw[List.length_reverse];exact y,d.reverse,r.reverse',⟨_,Heap.get?_push_size _ U,U,0,U⟩⟩
end
end L2
namespace L2
open PySem PySem.Spec PyProof.Rows PySem.AutoSeq1
def zL {a b:Addr} {d e:Array Value} {k m:Nat} {j:Option Addr} {sl:Array (Option Value)} (r:¬ (!d.isEmpty&&Builtin.List.listTooLong (d.size+e.size))=true) (l:d.size<=sizeLine) (n:d.size+e.size<=sizeLine+1) :
 Meets (Builtin.«list.extend» ⟨[.ref a,.ref b],[]⟩) λ_ R s=>s.heap.get? a=some ⟨.type "list",none,.seq d k,#[]⟩ /\
  s.heap.get? b=some ⟨.type "tuple",j,.seq e m,sl⟩/\R (.ok (.ret Value.none)) {s with heap:=s.heap.update a (Obj.mapSeq λx=>x++e),toks:=s.toks} :=
 .of_wp λP W B R s z=>by
  rcases s with ⟨t,u,v,w,y⟩
  rcases z with ⟨i,o,q⟩
  have A:=PySem.AutoSeq1.sub_tuple_tuple;have C:=PySem.AutoSeq1.sub_list_list;have D:=PySem.AutoSeq1.sub_tuple_list;have E:=PySem.AutoSeq1.sub_list_tuple;have p:(d++e).size<=sizeLine+1:=by rw[Array.size_append];exact n
  wp_walk using (wpAny_updateSeq i U (hz:=l) (_hz':=p)),wpAny_loadPart' i,wpAny_loadPart' o
  exact⟨_,U,q⟩
section
variable {X:Cx} {o e:Expr} {Y:TE} {t:TA} {Z W:Pos}
inductive Ba (K:Fg) (x:V) (vs:List V) (H:Hp) (Q:VK):Prop
  | mk (l b:Addr) (xs zs:List V) (h1:x=.ref l) (h2:vs=[.ref b]) (h3:H l=some (.lst xs)) (h4:SqT K H b zs) (h5:xs.length+zs.length<=sizeLine) (q:Q .non (upd H l (.lst (xs++zs)))):Ba K x vs H Q
def At (K:Fg):V->List V->Hp->VK->Prop:=λx vs H Q=>Ba K x vs H Q
def zt:MtM X "list.extend" (At X.K):=by
 intro f s T H x E v S Q I A o h;obtain⟨l,b,J,O,rfl,rfl,i,k,G,q⟩:=h;cases A;obtain⟨u,rfl,y⟩:=o.one;cases y;obtain⟨z,a,n,r,D,e⟩:=I.lstM i;obtain⟨g,j,⟨B,w,p,N,m⟩,P⟩:=I.tuple k;have t:=j.length;have d:a.toArray.size+g.toArray.size<=sizeLine:=by rw[List.size_toArray,List.size_toArray];omega
 have c:¬ (!a.toArray.isEmpty&&Builtin.List.listTooLong (a.toArray.size+g.toArray.size))=true:=by
  rw[li d,Bool.and_false];exact Bool.false_ne_true
 obtain⟨L,M,C,R⟩:=B;cases p;cases m;refine call_meets F.slot_list_extend ⟨_,e,U⟩ F.entry_list_extend (F.args_list_extend_2 _ _)
  (zL c (by grind) ?A) ⟨e,w,?_⟩
 refine⟨.non,_,I.lset i e ?B (r.append j) ?_,U,q⟩;rw[lAp];omega
def CB (d:PE X o Y) (b:PA X [e] t) (h:attributeBase o "extend" X.env (eval o X.env)=eval o X.env:=by rfl) (f:(Z.endLine==W.line)=true:=by rfl)
 (a:((backTo W (starEach [e] X.env)).all (λx=>!x.1)&&(backToKw W (keywordEach [] X.env)).all (λx=>x.1.isSome)&&decide ([e].length+([]:List Keyword).length+(if ([]:List Keyword).isEmpty then 0 else 1)<30))=true:=by rfl)
 (c:starEach [e] X.env=?U::starEach [] X.env:=by rfl) (g:(backTo W (starEach [] X.env)).any (·.1)=false:=by rfl) :
 PE X (.Call (.Attribute o "extend" Z) [e] [] W) (tBM X.K "list" (At X.K) Y t):=sh PySem.F.plainAttrs_list PySem.F.slot_list_extend PySem.F.type_list_extend zt d b h a f c g
def rp (c:PE X o Y) (a:attributeBase o "pop" X.env (eval o X.env)=eval o X.env:=by rfl) (b:(Z.endLine==W.line)=true:=by rfl) :
 PE X (.Call (.Attribute o "pop" Z) [] [] W) (D2 X.K "list" E3 Y):=BH PySem.F.plainAttrs_list PySem.F.slot_list_pop PySem.F.type_list_pop BY c a b
end
end L2
namespace L2
def Hh {x a b:Nat} (h:x<a:=by with_reducible assumption) (e:Nat.ble a b=true:=by decide):x<b:=Nat.lt_of_lt_of_le h (Nat.le_of_ble_eq_true e)
def b_z {n:Nat} (h:0<n:=by with_reducible assumption):(0:Int)<(n:Int):=Int.ofNat_lt.mpr h
def Hl {k a b:Int} (h:k<=a:=by with_reducible assumption) (e:decide (a<b)=true:=by decide):k<b:=Int.lt_of_le_of_lt h (of_decide_eq_true e)
def Hg {k a b:Int} (h:k<=a:=by with_reducible assumption) (e:decide (0<=b)=true:=by decide):k<=a+b:=by have:=of_decide_eq_true e;lia
def c_x {b c A B:Nat} (h:b<=c:=by with_reducible assumption) (a:c<A:=by with_reducible assumption) (e:Nat.ble A B=true:=by decide):b<B:=Hh (Nat.lt_of_le_of_lt h a) e
def Fo {b c d A B:Nat} (h:b<=c:=by with_reducible assumption) (f:c<=d:=by with_reducible assumption) (a:d<A:=by with_reducible assumption) (e:Nat.ble A B=true:=by decide):b<B:=c_x (Nat.le_trans h f) a e
def Hf {x a:Nat} {B:Int} (h:x<=a:=by with_reducible assumption) (e:decide ((a:Int)<B)=true:=by decide):(x:Int)<B:=by have:=of_decide_eq_true e;lia
def ab (h:∀ N:St->Hp->Prop,(∀ e f,b ⟨d,r,k,c⟩ e f->N e f)->a ⟨N,r,k,c⟩ σ H):Bj a b ⟨d,r,k,c⟩ σ H:=h _ λ_ _ z=>z
end L2
namespace K13
open PySem L2 PySem.Spec PyProof.Rows PySem.SeqAt
mutual
inductive BD (K:Fg) (H:Hp):V->PyData->Prop
  | non:BD K H .non .none
  | bl (b:Bool):BD K H (.bl b) (.bool b)
  | int (i:Int):BD K H (.int i) (.int i)
  | str (x:Str):BD K H (.str x) (.str x)
  | tup {a:Addr} {xs:List V} {ds:PDs}:SqT K H a xs->BDs K H xs ds->BD K H (.ref a) (.tuple ds)
  | lst {a:Addr} {xs:List V}:H a=some (.lst xs)->BD K H (.ref a) (.list [])
  | dct {a:Addr} {kvs:List (Key×V)}:H a=some (.dK kvs)->BD K H (.ref a) (.dict [])
inductive BDs (K:Fg) (H:Hp):List V->PDs->Prop
  | nil:BDs K H [] []
  | cons {x:V} {d:PyData} {xs:List V} {ds:PDs}:BD K H x d->BDs K H xs ds->BDs K H (x::xs) (d::ds)
end
structure Kp (H H':Hp):Prop where
  tk:Tk H H'
  l:∀ b xs,H b=some (.lst xs)->∃ ys,H' b=some (.lst ys)
  d:∀ b kvs,H b=some (.dK kvs)->∃ k2,H' b=some (.dK k2)
section
variable {K:Fg} {H j H2:Hp}
def nM (s:aA H j):Kp H j:=⟨s.tk,λ_ a h=>⟨a,s _ _ h⟩,λ_ k h=>⟨k,s _ _ h⟩⟩
def cK (h:H L=none\/∃ a,H L=some (.lst a)):Kp H (upd H L (.lst xs)):=by
 refine⟨Bh h,λb a e=>?_,λb a e=>?_⟩
 · by_cases n:b=L
   · rw[n];exact⟨_,pF⟩
   · exact⟨a,by rw[ai n];exact e⟩
 · have n:b≠L:=λz=>by rw[z] at e;rcases h with h | ⟨_,h⟩ <;> rw[h] at e <;> cases e
   exact⟨a,by rw[ai n];exact e⟩
def BD.kp (e:Kp H j) (h:BD K H v d):BD K j v d :=
 BD.rec .non (λb=>.bl b) (λi=>.int i) (λx=>.str x) (λhq _ f=>.tup (hq.tk e.tk) f) (λh=>by obtain⟨c,h⟩:=e.l _ _ h;exact .lst h) (λh=>by obtain⟨c,h⟩:=e.d _ _ h;exact .dct h) .nil (λ_ _ a b=>.cons a b) h
def BDs.kp (e:Kp H j) (h:BDs K H xs ds):BDs K j xs ds:=by
 induction xs generalizing ds with
 | nil=>cases h;exact .nil
 | cons x r c=>cases h with | cons a b=>exact .cons (a.kp e) (c b)
def BD.same (e:aA H j) (h:BD K H v d):BD K j v d:=h.kp (nM e)
def BDs.same (e:aA H j) (h:BDs K H v d):BDs K j v d:=h.kp (nM e)
def BDs.length (h:BDs K H xs ds):xs.length=ds.length:=by
 induction xs generalizing ds with
 | nil=>cases h;rfl
 | cons x r c=>cases h with | cons a b=>rw[List.length_cons,List.length_cons,c b]
def BDs.get {xs:List V} {ds:PDs} (h:BDs K H xs ds):∀ {i:Nat} {x:V},xs[i]?=some x->∃ d,ds[i]?=some d/\BD K H x d:=by
 induction xs generalizing ds with
 | nil=>intro i x z;simp at z
 | cons y r c =>
  cases h with
  | cons a b =>
   intro i x z;cases i with
   | zero=>cases z;exact⟨_,U,a⟩
   | succ i=>exact c b z
def BDs.at (h:BDs K H xs ds):∀ {i:Nat} {d:PyData},ds[i]?=some d->∃ x,xs[i]?=some x/\BD K H x d:=by
 induction xs generalizing ds with
 | nil=>intro i d z;cases h;simp at z
 | cons y r c =>
  cases h with
  | cons a b =>
   intro i d z;cases i with
   | zero=>cases z;exact⟨_,U,a⟩
   | succ i=>exact c b z
def BDs.app (h:BDs K H xs ds) (g:BDs K H ys es):BDs K H (xs++ys) (ds++es):=by
 induction xs generalizing ds with
 | nil=>cases h;exact g
 | cons x r c=>cases h with | cons a b=>exact .cons a (c b)
def BDs.snoc (h:BDs K H xs ds) (g:BD K H x d):BDs K H (xs++[x]) (ds++[d]):=h.app (.cons g .nil)
def BDs.drop (h:BDs K H xs ds) (i:Nat):BDs K H (xs.drop i) (ds.drop i):=by
 induction i generalizing xs ds with
 | zero=>exact h
 | succ i c =>
  cases h with
  | nil=>exact .nil
  | cons a b=>exact c b
def BDs.take (h:BDs K H xs ds) (i:Nat):BDs K H (xs.take i) (ds.take i):=by
 induction i generalizing xs ds with
 | zero=>exact .nil
 | succ i c =>
  cases h with
  | nil=>exact .nil
  | cons a b=>exact .cons a (c b)
def BD.tup_of {ds:PDs} (h:BD K H v (.tuple ds)):∃ a c,v=.ref a/\SqT K H a c/\BDs K H c ds:=by
 cases h with | tup a b=>exact⟨_,_,U,a,b⟩
def BD.int_of (h:BD K H v (.int i)):v=.int i:=by cases h;rfl
def BD.str_of (h:BD K H v (.str x)):v=.str x:=by cases h;rfl
end
def cA:String->PyData->Bool
  | "tuple",.tuple _=>true
  | "int",.int _=>true
  | "int",.bool _=>true
  | "bool",.bool _=>true
  | "str",.str _=>true
  | _,_=>false
def tyN:PyData->String
  | .none=>"NoneType"
  | .bool _=>"bool"
  | .int _=>"int"
  | .str _=>"str"
  | .list _=>"list"
  | .tuple _=>"tuple"
  | .dict _=>"dict"
def Ts4:List String:=["tuple","int","bool","str"]
def Smp:PDs:=[.none,.bool true,.int 0,.str "",.list [],.tuple [],.dict []]
structure Kit (K:Fg):Prop where
  k:(Smp.flatMap λd=>Ts4.map λT=>PySem.W.kitOne K (.type (tyN d)) (.type T))=Smp.flatMap λd=>Ts4.map λT=>some (cA T d)
def Kit.one {K:Fg} (k:Kit K) (a:T∈Ts4):PySem.W.kitOne K (.type (tyN d)) (.type T)=some (cA T d):=by
 have h:=k.k;simp only[Smp,Ts4,List.flatMap_cons,List.flatMap_nil,List.map_cons,List.map_nil,List.cons_append,List.nil_append,List.append_nil,List.cons.injEq,and_true] at h;simp only[Ts4,List.mem_cons,nMN,or_false] at a
 rcases a with rfl | rfl | rfl | rfl <;> cases d <;> first | exact h.1 | (obtain⟨_,h⟩:=h;first | exact h.1 | skip) <;> simp_all [tyN,cA]
inductive Fz (K:Fg) (xs:List V) (H:Hp) (Q:VK):Prop
  | mk (x:V) (d:PyData) (T:String) (h1:xs=[x,.ty T]) (h2:BD K H x d) (h3:T∈Ts4) (k:Kit K) (q:Q (.bl (cA T d)) H):Fz K xs H Q
def yY (K:Fg):List V->Hp->VK->Prop:=λxs H Q=>Fz K xs H Q
def xM:fZ X (.builtin "isinstance") (yY X.K):=by
 intro j s M H B w Q I l h;obtain⟨x,d,T,rfl,t,p,k,q⟩:=h;obtain⟨u,r,rfl,f,g⟩:=l.two;cases (show r=Value.type T from g);have b:=k.one (d:=d) p;cases t with
 | non=>exact fk I f .non b λC=>⟨.bl _,H,I.tok _,U,q⟩
 | bl c=>exact fk I f (.bl c) b λC=>⟨.bl _,H,I.tok _,U,q⟩
 | int i=>exact fk I f (.int i) b λC=>⟨.bl _,H,I.tok _,U,q⟩
 | str y=>exact fk I f (.str y) b λC=>⟨.bl _,H,I.tok _,U,q⟩
 | @tup a O P G R =>
  cases (show u=Value.ref a from f);obtain⟨m,_,⟨o,v,n,_⟩,_⟩:=I.tuple G;exact PySem.W.kia_one PySem.W.kitx_tuple I.kIn ⟨o,v,n⟩ b (λz=>nomatch z) λC=>⟨.bl _,H,I.tok _,U,q⟩
 | lst e=>exact fk I f (.lst e) b λC=>⟨.bl _,H,I.tok _,U,q⟩
 | dct e=>exact fk I f (.dK e) b λC=>⟨.bl _,H,I.tok _,U,q⟩
def bO {p a:Pos} (b:X.mg "isinstance"=none) (d:PA X (e::es) t) (c:Gl X "isinstance":=by rfl)
 (he:starEach (e::es) X.env=?U::starEach es X.env:=by rfl) (hpl:(backTo a (starEach es X.env)).any (·.1)=false:=by rfl):
 PE X (.Call (.Name "isinstance" p) (e::es) [] a) (tCB (yY X.K) t):=fw xM c b L2.kc d (he:=he) (hpl:=hpl)
def kept:List Str:=["record","function","deep","open","let","var","set","do","if","while","each","say","fault","add","sub","mul","div","less","same","at","not","size","row","new","get","fun","apply"]
def tbl:List (Str×List Str):=[("number",["number"]),("name",["meant"]),("let",["bound","one","one"]),("var",["bound","one","one"]),("set",["meant","one"]),("do",["many"]),("if",["one","one","one"]),("while",["one","one"]),("each",["bound","one","one"]),("say",["one"]),("fault",["word"]),("op",["op","many"]),("new",["place","many"]),("get",["place","place","one"]),("fun",["bounds","one"]),("apply",["one","many"]),("call",["place","many"])]
def opT:List (Str×Int×Int):=[("add",2,2),("sub",2,2),("mul",2,2),("div",2,2),("less",2,2),("same",2,2),("at",2,2),("not",1,1),("size",1,1),("row",0,8)]
structure Blt (K:Fg) (mg:SOV):Prop where
  len:mg "len"=none
  range:mg "range"=none
  isinstance:mg "isinstance"=none
  all:mg "all"=none
  tuple:mg "tuple"=none
  int:mg "int"=none
  bool:mg "bool"=none
  str:mg "str"=none
  zip:mg "zip"=none
  list:mg "list"=none
  dict:mg "dict"=none
  set:mg "set"=none
  sorted:mg "sorted"=none
  enumerate:mg "enumerate"=none
  kit:Kit K
structure Glb (P:Program) (w:World) (K:Fg) (mg:SOV):Prop where
  longest:∃ t,mg "LONGEST_NAME"=some (.int 8 t)
  least:∃ t,mg "LEAST_NUMBER"=some (.int (-32768) t)
  greatest:∃ t,mg "GREATEST_NUMBER"=some (.int 32767 t)
  params:∃ t,mg "MOST_PARAMS"=some (.int 4 t)
  fields:∃ t,mg "MOST_FIELDS"=some (.int 4 t)
  forms:∃ t,mg "MOST_FORMS"=some (.int 40 t)
  nob:∃ t,mg "NO_BOUND"=some (.int (-1) t)
  words:∃ a,mg "KEPT_WORDS"=some (.ref a)/\∀ H,SqT K H a (kept.map V.str)
  heads:∃ a,mg "HEADS"=some (.ref a)/\∀ H,SqT K H a [.str "function",.str "deep",.str "open"]
  slots:∃ a kvs,mg "SLOTS"=some (.ref a)/\jW P w K a kvs/\(∀ k sl,(k,sl)∈tbl->∃ r,bd kvs (.inr k)=some (.ref r)/\∀ H,SqT K H r (sl.map V.str))/\∀ k,k∉tbl.map (·.1)->bd kvs (.inr k)=none
  ops:∃ a kvs,mg "OPS"=some (.ref a)/\jW P w K a kvs/\(∀ k l m,(k,l,m)∈opT->∃ r,bd kvs (.inr k)=some (.ref r)/\∀ H,SqT K H r [.int l,.int m])/\∀ k,k∉opT.map (·.1)->bd kvs (.inr k)=none
section
variable {b:CXT} {P:Program} {w:World} {K:Fg} {c:SOV} {base:Heap} {N:List Str} {q:Str} {sc:Scope} {f:Addr} {d:Value} {A:Around} {a:List Env} {s:Shared} {H:Hp} {E:XK}
def df:(iF b P w K c base N q sc f d A a s H E).nox.K=K:=rfl
def dj:(iF b P w K c base N q sc f d A a s H E).nox.prog=P:=rfl
def di:(iF b P w K c base N q sc f d A a s H E).nox.w=w:=rfl
end
def isT:PyData->Bool
  | .tuple _=>true
  | _=>false
def isW:PyData->Bool
  | .int _=>true
  | _=>false
def wIn (a b:Int):PyData->Bool
  | .int i=>decide (a<=i)&&decide (i<=b)
  | _=>false
def inR (lo hi c:Nat):Bool:=decide (lo<=c)&&decide (c<=hi)
def bD (z:Str):Bool:=(decide (1<=z.length)&&decide (z.length<=8))&&(!(kept.any λy=>y==z))&&z.cps.toList.all (inR 97 122)
def fW:PyData->Bool
  | .str s=>bD s
  | _=>false
def lkT {α:Type} (t:List (Str×α)) (h:Str):Option α:=(t.find? λp=>decide (p.1=h)).map (·.2)
def opD:PyData->Bool
  | .str s=>(lkT opT s).isSome
  | _=>false
def ik:PyData->Bool
  | .tuple l=>decide (l.length<=4)&&l.all isW
  | _=>false
def cf (s:Str) (d:PyData):Bool :=
  if s="one" then true else if s="many" then isT d else if s="bounds" then ik d else if s="number" then wIn (-32768) 32767 d else if s="word" then fW d else if s="op" then opD d else isW d
def cB:PyData->Bool
  | .tuple (.str h::ps)=>match lkT tbl h with
    | none=>false
    | some sl=>decide (ps.length=sl.length)&&(List.zipWith cf sl ps).all id
  | _=>false
def items:PyData->PDs
  | .tuple l=>l
  | _=>[]
def iz (s:Str) (d:PyData):PDs:=if s="one" then [d] else if s="many" then items d else []
def eQ (sl:List Str) (ps:PDs):PDs:=(List.zipWith iz sl ps).flatten
def bw:PyData->PDs
  | .tuple (.str h::ps)=>eQ ((lkT tbl h).getD []) ps
  | _=>[]
def bu:PyData->Str
  | .tuple (.str h::_)=>h
  | _=>""
def lve:List Str:=["let","var","each"]
def cZ:PyData->PDs
  | .tuple (.str h::p::_)=>if h∈lve then [p] else if h="fun" then items p else []
  | _=>[]
def aY:PyData->Int
  | .int i=>i
  | _=>0
structure Cfg where
  F:List (Str×Int)
  R:List Int
abbrev Kn:=Int->Option (Bool×Nat)
def eM (kn:Kn) (n:Nat) (x:Int):Bool:=match kn x with
  | some (v,a)=>!v||decide (a=n)
  | none=>false
def iM (kn:Kn) (n:Nat) (x:Int):Bool:=match kn x with
  | some (v,a)=>v&&decide (a=n)
  | none=>false
def plc {α:Type} (l:List α) (i:Int):Option α:=if 0<=i then l[i.toNat]? else none
def opN (s:Str) (k:Nat):Bool:=match lkT opT s with
  | some (a,b)=>decide (a<=(k:Int))&&decide ((k:Int)<=b)
  | none=>false
def p0 (d:PyData):PyData:=match d with
  | .tuple (_::p::_)=>p
  | _=>.none
def p1 (d:PyData):PyData:=match d with
  | .tuple (_::_::p::_)=>p
  | _=>.none
def gy (C:Cfg) (kn:Kn) (n:Nat) (d:PyData):Bool :=
  if bu d="name" then eM kn n (aY (p0 d))
  else if bu d="set" then iM kn n (aY (p0 d))
  else if bu d="do" then decide (0<(items (p0 d)).length)
  else if bu d="op" then (match p0 d with | .str s=>opN s (items (p1 d)).length | _=>false)
  else if bu d="new" then (match plc C.R (aY (p0 d)) with | some c=>decide (((items (p1 d)).length:Int)=c) | none=>false)
  else if bu d="get" then (match plc C.R (aY (p0 d)) with | some c=>decide (0<=aY (p1 d))&&decide (aY (p1 d)<c) | none=>false)
  else if bu d="call" then (match plc C.F (aY (p0 d)) with | some (h,c)=>!(decide (h="open"))&&decide (c=((items (p1 d)).length:Int)) | none=>false)
  else true
def rgI (i:Int) (k:Nat):List Int:=(List.range k).map λt=>i+((t:Nat):Int)
def eP (C:Cfg) (kn:Kn) (n:Nat) (fr:Int) (d:PyData):Bool:=cB d&&gy C kn n d&&decide ((cZ d).map aY=rgI fr (cZ d).length)
def cS (kn:Kn) (v:Bool) (a:Nat):List Int->Kn
  | []=>kn
  | i::r=>cS (λx=>if x=i then some (v,a) else kn x) v a r
abbrev Wk:=Int×List Int
def eV (d:PyData):List Int:=if bu d="call" then [aY (p0 d)] else []
def iZ (d:PyData) (n:Nat):Nat:=if bu d="fun" then n+1 else n
def lQ (d:PyData) (kn:Kn) (n:Nat):Kn:=cS kn (decide (bu d="var")) (iZ d n) ((cZ d).map aY)
def fY (g:Kn->Nat->Wk->PyData->Option Wk) (kn:Kn) (n:Nat) (kn':Kn) (n':Nat):PDs->Wk->Option Wk
  | [],w=>some w
  | [x],w=>g kn' n' w x
  | x::y::r,w=>(g kn n w x).bind (fY g kn n kn' n' (y::r))
def nxt (w:Wk) (d:PyData):Wk:=(w.1+(cZ d).length,w.2++eV d)
def fit (C:Cfg):Nat->Kn->Nat->Wk->PyData->Option Wk
  | 0,_,_,_,_=>none
  | f+1,kn,n,w,d=>if eP C kn n w.1 d then fY (fit C f) kn n (lQ d kn n) (iZ d n) (bw d) (nxt w d) else none
mutual
def dp:PyData->Nat
  | .tuple l=>dps l+1
  | _=>1
def dps:PDs->Nat
  | []=>0
  | x::r=>max (dp x) (dps r)
end
mutual
def wt:PyData->Nat
  | .tuple l=>wts l+1
  | .str s=>s.length+1
  | _=>1
def wts:PDs->Nat
  | []=>0
  | x::r=>wt x+wts r
end
def fP (h:x∈l):dp x<=dps l:=by
 induction l with
 | nil=>cases h
 | cons y r a =>
  rw[dps]
  rcases List.mem_cons.mp h with rfl | h
  · exact Nat.le_max_left ..
  · grind
def jF (h:∀ x∈l,dp x<=n):dps l<=n:=by
 induction l with
 | nil=>rw[dps];exact Nat.zero_le _
 | cons y r b =>
  rw[dps];exact Nat.max_le.mpr ⟨h y (mCS ..),b λx a=>h x (mCM _ a)⟩
def fo (d:PyData):1<=wt d:=by
 cases d with
 | tuple l=>rw[wt];exact Nat.succ_le_succ (Nat.zero_le _)
 | str s=>rw[wt];exact Nat.succ_le_succ (Nat.zero_le _)
 | _=>simp[wt]
def cx (a b:PDs):wts (a++b)=wts a+wts b:=by
 induction a with
 | nil=>rw[wts,List.nil_append];omega
 | cons x r c=>rw[List.cons_append,wts,wts,c];omega
def cN (l:PDs):l.length<=wts l:=by
 induction l with
 | nil=>exact Nat.zero_le _
 | cons x r a=>rw[wts,List.length_cons];have:=fo x;omega
def C1 (s:Str) (d:PyData):wts (iz s d)<=wt d/\∀ x∈iz s d,dp x<=dp d:=by
 unfold iz;split
 · refine⟨by rw[wts,wts];omega,λx h=>?_⟩;rw[mSg.mp h];exact Nat.le_refl _
 · split
   · cases d with
     | tuple l=>refine⟨by rw[wt];exact Nat.le_succ _,λx h=>?_⟩;rw[dp];have:=fP h;exact Nat.le_succ_of_le this
     | _=>exact⟨by show wts []<=_;rw[wts];exact Nat.zero_le _,λx h=>by cases h⟩
   · exact⟨by rw[wts];exact Nat.zero_le _,λx h=>by cases h⟩
def sG (sl:List Str) (ps:PDs):wts (eQ sl ps)<=wts ps/\∀ x∈eQ sl ps,dp x<=dps ps:=by
 induction sl generalizing ps with
 | nil=>exact⟨by show wts []<=_;rw[wts];exact Nat.zero_le _,λx h=>by cases h⟩
 | cons s sl f =>
  cases ps with
  | nil=>exact⟨by rw[wts];exact Nat.zero_le _,λx h=>by cases h⟩
  | cons p ps =>
   obtain⟨a,b⟩:=f ps;obtain⟨c,e⟩:=C1 s p;refine⟨?_,λx h=>?_⟩
   · show wts (iz s p++eQ sl ps)<=_;rw[cx,wts];omega
   · rw[dps]
     rcases mAp.mp (show x∈iz s p++eQ sl ps from h) with h | h
     · grind
     · grind
def jA (d:PyData):wts (bw d)<wt d/\∀ x∈bw d,dp x<dp d:=by
 unfold bw;split
 · rename_i h e
   obtain⟨a,b⟩:=sG ((lkT tbl h).getD []) e;refine⟨?_,λx f=>?_⟩
   · rw[wt,wts];have:=fo (.str h);omega
   · rw[dp,dps];have:=b x f;have:=Nat.le_max_right (dp (.str h)) (dps e);omega
 · exact⟨by rw[wts];exact fo d,λx h=>by cases h⟩
structure En where
  f:Nat
  kn:Kn
  n:Nat
  d:PyData
def ly (C:Cfg):List En->Wk->Option Wk
  | [],w=>some w
  | e::r,w=>(fit C e.f e.kn e.n w e.d).bind (ly C r)
def ur (f:Nat) (kn:Kn) (n:Nat) (kn':Kn) (n':Nat):PDs->List En
  | []=>[]
  | [x]=>[⟨f,kn',n',x⟩]
  | x::y::r=>⟨f,kn,n,x⟩::ur f kn n kn' n' (y::r)
def mK (C:Cfg) (f:Nat) (kn:Kn) (n:Nat) (kn':Kn) (n':Nat) (r:List En):∀ (ks:PDs) (w:Wk),ly C (ur f kn n kn' n' ks++r) w=(fY (fit C f) kn n kn' n' ks w).bind (ly C r)
 | [],w=>rfl
 | [x],w=>rfl
 | x::y::l,w=>by
  show (fit C f kn n w x).bind (ly C (ur f kn n kn' n' (y::l)++r))=((fit C f kn n w x).bind (fY (fit C f) kn n kn' n' (y::l))).bind (ly C r);cases fit C f kn n w x with
  | none=>rfl
  | some w'=>exact mK C f kn n kn' n' r (y::l) w'
def uA (C:Cfg) (f:Nat) (kn:Kn) (n:Nat) (d:PyData) (r:List En) (w:Wk):ly C (⟨f+1,kn,n,d⟩::r) w=if eP C kn n w.1 d then ly C (ur f kn n (lQ d kn n) (iZ d n) (bw d)++r) (nxt w d) else none:=by
 show (fit C (f+1) kn n w d).bind (ly C r)=_;rw[fit,mK];split <;> rfl
def xm (C:Cfg):∀ (f:Nat) {kn:Kn} {n:Nat} {w c:Wk} {d:PyData},fit C f kn n w d=some c->fit C (f+1) kn n w d=some c:=by
 intro f
 induction f with
 | zero=>intro kn n w c d h;cases h
 | succ f j =>
  intro kn n w c d h;have o:∀ (g:PDs) (kn e) (n i) (w c),fY (fit C f) kn n e i g w=some c->fY (fit C (f+1)) kn n e i g w=some c:=by
   intro g kn e n i
   induction g with
   | nil=>intro w c h;exact h
   | cons x l k =>
    intro w c h;cases l with
    | nil=>exact j h
    | cons y l =>
     obtain⟨m,a,b⟩:=Option.bind_eq_some_iff.mp h;exact Option.bind_eq_some_iff.mpr ⟨m,j a,k _ _ b⟩
  rw[fit] at h ⊢;split at h
  · grind
  · cases h
def Ch (C:Cfg) (a:f<=f') (h:fit C f kn n w d=some w'):fit C f' kn n w d=some w':=by
 induction a with
 | refl=>exact h
 | step _ b=>exact xm C _ b
def eT (z:Str) (a:List Str):inV (V.str z) (a.map V.str)=a.any λy=>y==z:=by
 unfold inV;rw[List.any_map];rfl
def dB (a:List Str):(a.map V.str).all fK=true:=by
 rw[List.all_map,List.all_eq_true];intro x _;rfl
section
variable {P:Program} {w:World} {K:Fg} {W:SOV} {base:Heap}
def dv:wt (.str s)=s.length+1:=by rw[wt]
def aC {l:PDs}:wt (.tuple l)=wts l+1:=by rw[wt]
inductive Fs (f:PyData->Bool) (K:Fg) (vs:List V) (H:Hp) (Q:VK):Prop
  | mk (v:V) (d:PyData) (h0:vs=[v]) (h1:BD K H v d) (h2:wt d<=900000) (q:∀ H',aA H H'->Q (.bl (f d)) H'):Fs f K vs H Q
def spA (f:PyData->Bool) (K:Fg):Sp:=λvs H Q _=>Fs f K vs H Q
abbrev An:Stmt:=top 5
inductive AT (vs:List V) (H:Hp) (Q:VK):Prop
  | mk (z:Str) (h0:vs=[.str z]) (h1:z.length<=900000) (q:∀ H',aA H H'->Q (.bl (bD z)) H'):AT vs H Q
def qw:Sp:=λvs H Q _=>AT vs H Q
def Bs:aM ["word"] ["word"] (ad An):=fsM
def zk (D:Def K W "is_name" An) (T:Blt K W) (C:Glb P w K W):Fn P w K W base "is_name" 1 ["word"] qw:=by
 refine D.fn Bs ?P (λ_ _ _ _ _ _ G F=>by obtain⟨a,rfl⟩:=dM F;rfl) (λf N A f s H O Q E S h=>?_)
 · obtain⟨z,rfl,_⟩:=h;rfl
 · obtain⟨z,rfl,d,q⟩:=h;have J:1000000<sizeLine:=by decide
   replace d:z.length<=sizeLine:=by omega
   obtain⟨I,t⟩:=C.longest;obtain⟨g,o,m⟩:=C.words;refine⟨_,(pE (aE (PW.pt (bF (aU (oQ fV fV pG (ym T.len (pA ?C pC)) (cD (v:=.int 8) U t ⟨_,U⟩))) (bJ (pP fj ?C (cD (v:=.ref g) U o U) (by with_unfolding_all rfl))))) ?O am)
 (pH (ak (lI T.all (pA (cO (own:=["sign"]) (outs:=[]) U (aG.own U (by left) (by left)) (wm ?C) (λ_ _ _ _=>⟨(ax (i:=0) (nd1 _) U ?D),bC,(gM mt mt pD ?C pD)⟩)) pC))))),?_⟩
   simp;refine⟨d,?_⟩;by_cases l:(z.length:Int)<1
   · refine .inl ⟨l,?_⟩;have e:bD z=false:=by
      have:¬ (1<=z.length):=by omega
      simp[bD,this]
     rw[<- e];exact q H (aA.refl H)
   refine .inr ⟨by omega,?_⟩;by_cases x:8<(z.length:Int)
   · refine .inl ⟨x,?_⟩;have e:bD z=false:=by
      have:¬ (z.length<=8):=by omega
      simp[bD,this]
     rw[<- e];exact q H (aA.refl H)
   refine .inr ⟨by omega,g,_,U,.inr (m H),U,dB _,?_⟩;rw[eT];cases j:kept.any λy=>y==z
   · refine .inl ⟨U,λL k=>?_⟩;refine pX k d (λ_=>true) (λc=>V.bl (inR 97 122 c)) (λc p R T M a b=>?_) ?_
     · exact aJ (B:=T p) (uL (a:=97) (b:=122) (by left) (by left) (a U))
     · refine⟨L,U,z.cps.toList.map (inR 97 122),?_,?_⟩
       · refine SqL.of ?_;rw[pF,List.filter_eq_self.mpr ?H,List.map_map];rfl
       · have e:bD z=(z.cps.toList.map (inR 97 122)).all id:=by
          have n:1<=z.length:=by omega
          have r:z.length<=8:=by omega
          simp[bD,j,n,r]
         rw[<- e];exact q _ (smu k)
   · refine .inr ⟨U,?_⟩;have e:bD z=false:=by simp[bD,j]
     rw[<- e];exact q H (aA.refl H)
abbrev sWh:Stmt:=top 18
def G6:aM ["thing"] ["thing"] (ad sWh):=fsM
def iB:"tuple"∈Ts4:=by left
def Cb:"int"∈Ts4:=by left
def wW:"bool"∈Ts4:=by left
def lR:"str"∈Ts4:=by left
def bG:bootBuiltins "tuple"=some (.type "tuple"):=by left
def wV (d:PyData):isW d=(cA "int" d&&!cA "bool" d):=by cases d <;> rfl
def Eg (D:Def K W "is_whole" sWh) (T:Blt K W):Fn P w K W base "is_whole" 1 ["thing"] (spA isW K):=by
 refine D.fn G6 ?P (λ_ _ _ _ _ _ k f=>by obtain⟨a,rfl⟩:=dM f;rfl) (λf j A b s H i Q E l h=>?_)
 · ext j
 · obtain⟨v,d,rfl,c,g,q⟩:=h;refine⟨_,(pH (ak (cJ (bO T.isinstance (pA ?C (pA (ba (v:=.ty "int") U T.int i8 U) pC))) (de (wo (bO T.isinstance (pA ?C (pA (ba (v:=.ty "bool") U T.bool fE U) pC)))))))),?_⟩;rw[wV] at q;refine⟨_,U,v,d,_,U,c,Cb,T.kit,_,U,?_⟩;cases e:cA "int" d with
   | false=>rw[e] at q;exact aP (q H (aA.refl H))
   | true=>rw[e] at q;exact aJ ⟨_,U,v,d,_,U,c,wW,T.kit,_,U,q H (aA.refl H)⟩
inductive AF (K:Fg) (vs:List V) (H:Hp) (Q:VK):Prop
  | mk (v:V) (d:PyData) (a b:Int) (h0:vs=[v,.int a,.int b]) (h1:BD K H v d) (h2:wt d<=900000) (q:∀ H',aA H H'->Q (.bl (wIn a b d)) H'):AF K vs H Q
def lK (K:Fg):Sp:=λvs H Q _=>AF K vs H Q
abbrev sWw:Stmt:=top 19
def G5:aM ["thing","least","most"] ["thing","least","most"] (ad sWw):=fsM
def cV (h:isW d=true):∃ i,d=.int i:=by cases d <;> first | exact⟨_,U⟩ | cases h
def fA (h:isT d=true):∃ l,d=.tuple l:=by cases d <;> first | exact⟨_,U⟩ | cases h
def qp (h:isW d=false):wIn a b d=false:=by cases d <;> first | rfl | cases h
def Ec (D:Def K z "is_whole_within" sWw) (T:Blt K z) (p:Fn P w K z y "is_whole" 1 ["thing"] (spA isW K)):Fn P w K z y "is_whole_within" 2 ["thing","least","most"] (lK K):=by
 refine D.fn G5 (λC H Q E h=>?_) (λ_ _ _ _ _ _ x m=>by obtain⟨a,b,c,rfl⟩:=gG m;rfl) (λf u A f s H t Q E r h=>?_)
 · obtain⟨v,d,a,b,rfl,_⟩:=h;rfl
 · obtain⟨v,d,a,b,rfl,j,l,q⟩:=h;refine⟨_,(pH (ak (cJ (aB p (r.mono ?G) U (pA ?C pC)) (de (gM fV fV ?E ?C (pv 2)))))),?_⟩;refine⟨_,U,v,d,U,j,l,λB g=>⟨_,U,?_⟩⟩;cases e:isW d with
   | false=>rw[qp e] at q;exact aP (q B g)
   | true =>
    obtain⟨i,rfl⟩:=cV e;rw[j.int_of];refine aJ ⟨_,U,_,U,_,_,U,U,_,U,?_⟩;have k:wIn a b (.int i)=(decide (a<=i)&&decide (i<=b)):=rfl;rw[k] at q;by_cases n:a<=i
    · rw[decide_eq_true n] at q ⊢;exact aJ ⟨_,U,_,_,U,U,q B g⟩
    · grind
def mZ (k:Int):PyData->Bool
  | .tuple l=>decide ((l.length:Int)=k)
  | _=>false
inductive AI (K:Fg) (vs:List V) (H:Hp) (Q:VK):Prop
  | mk (v:V) (d:PyData) (k:Int) (h0:vs=[v,.int k]) (h1:BD K H v d) (q:Q (.bl (mZ k d)) H):AI K vs H Q
def yK (K:Fg):Sp:=λvs H Q _=>AI K vs H Q
abbrev sTo:Stmt:=top 20
def G7:aM ["thing","many"] ["thing","many"] (ad sTo):=fsM
def yz (h:cA "tuple" d=false):mZ k d=false:=by cases d <;> first | rfl | cases h
def eZ (h:cA "tuple" d=true):∃ l,d=.tuple l:=by cases d <;> first | exact⟨_,U⟩ | cases h
def gq (h:cA "str" d=true):∃ l,d=.str l:=by cases d <;> first | exact⟨_,U⟩ | cases h
def Ei (D:Def K W "is_tuple_of" sTo) (T:Blt K W):Fn P w K W base "is_tuple_of" 1 ["thing","many"] (yK K):=by
 refine D.fn G7 ?P (λ_ _ _ _ _ _ us hl=>by obtain⟨a,b,rfl⟩:=f8 hl;rfl) ?X
 · obtain⟨v,d,k,rfl,_⟩:=h;rfl
 · obtain⟨v,d,k,rfl,hv,q⟩:=h;refine⟨_,(pH (ak (cJ (bO T.isinstance (pA ?C (pA (ba (v:=.ty "tuple") U T.tuple bG U) pC))) (de (bL aZ (bq T.len (pA ?C pC)) ?E (pQ _)))))),?_⟩;refine⟨_,U,v,d,_,U,hv,iB,T.kit,_,U,?_⟩;cases e:cA "tuple" d with
   | false=>rw[yz e] at q;exact aP q
   | true =>
    obtain⟨l,rfl⟩:=eZ e;obtain⟨a,xs,rfl,ha,hx⟩:=hv.tup_of;refine aJ ⟨_,U,a,xs,U,.inr ha,_,U,U,?_⟩;rw[hx.length];have e2:mZ k (.tuple l)=decide ((l.length:Int)=k):=rfl;rw[e2] at q;have e3:(decide (V.int (l.length:Int)=V.int k))=decide ((l.length:Int)=k):=by simp
    rw[e3];exact q
abbrev sFc:Stmt:=top 13
inductive B0 (vs:List V) (H:Hp) (Q:VK):Prop
  | mk (k a b:Int) (h0:vs=[.int k,.int a,.int b]) (h1:0<=b) (q:Q (.bl (decide (a<=k)&&decide (k<=b))) H):B0 vs H Q
def Dj:Sp:=λvs H Q _=>B0 vs H Q
def Gb:aM ["many","least","most"] ["many","least","most"] (ad sFc):=fsM
def EH (D:Def K W "fits_count" sFc) (C:Glb P w K W):Fn P w K W base "fits_count" 1 ["many","least","most"] Dj:=by
 refine D.fn Gb ?P (λ_ _ _ _ _ _ o e=>by obtain⟨a,b,c,rfl⟩:=gG e;rfl) (λf n A d s H l Q E i h=>?_)
 · obtain⟨k,a,b,rfl,_⟩:=h;rfl
 · obtain⟨k,a,b,rfl,m,q⟩:=h;obtain⟨j,g⟩:=C.nob;refine⟨_,(pH (ak (cJ (bL fV ?E ?C (pQ _)) (de (E8 (bL aZ (pv 2) (cD (v:=.int (-1)) U g ⟨_,U⟩) (pQ _)) (de (bL fV ?C (pv 2) (pQ _)))))))),?_⟩;refine⟨_,U,_,U,_,_,U,U,_,U,?_⟩;by_cases f:a<=k
   · rw[decide_eq_true f] at q ⊢;refine aJ ?T;rw[decide_eq_false ?Q];exact aP ⟨_,U,_,U,_,_,U,U,q⟩
   · grind
end
end K13
namespace L2
open PySem PySem.Spec PyProof.Rows
section
variable {X:Cx} {o i:Expr} {F G:TE}
inductive Fw (P:Program) (w:World) (K:Fg) (x y:V) (H:Hp) (Q:VK):Prop
  | mk (a:Addr) (kvs:List (Key×V)) (k:Key) (h1:x=.ref a) (h2:jW P w K a kvs) (h3:y=kV k) (q:Q (.bl (bd kvs k).isSome) H):Fw P w K x y H Q
def FZ (P:Program) (w:World) (K:Fg) (G F:TE):TE:=λσ H Q=>G σ H λy H1=>F σ H1 λx H2=>Fw P w K x y H2 Q
def BI (hi:PE X i G) (p:PE X o F):PC X .In i o (FZ X.prog X.w X.K G F):=by
 intro b s σ H Q I h;refine thn (hi b s σ H _ I h) λiv q z=>?_;obtain⟨y,t,A,v,j⟩:=z;refine thn (p b q σ t _ A j) λu E z=>?_;obtain⟨x,C,e,l,a,c,k,B,g,f,r⟩:=z;subst B f;obtain rfl:u=Value.ref a:=l;obtain⟨n,D,d,m⟩:=g.of e;refine wpAny_in_of (fX v) n m.mapOf ?_;rw[<- (d.val k).isSome_eq];exact⟨.bl (bd c k).isSome,C,e.tok _,U,r⟩
end
end L2
namespace K13
open PySem L2 PySem.Spec PyProof.Rows PySem.SeqAt
section
variable {K:Fg} {H:Hp}
def kH (s:aA H H1) (h:H1 b=none):H b=none:=by
 cases e:H b with
 | none=>rfl
 | some u=>rw[s _ _ e] at h;cases h
def pY (f:PyData->Bool) {bT:L2.St} (s:SqT K H a xs) (j:BDs K H xs ds) (l:H L=none) (hz:ds.length<=900000)
 (step:∀ x d b (R:VK),BD K b x d->d∈ds->aA H b->(∀ n,aA b n->R (.bl (f d)) n)->te (some x::bT) b R)
 (q:∀ b,aA H b->SqL K b L ((ds.map f).map V.bl)->Q (.ref L) b):bj (Itt K a) (cP 0) yB te Q (none::bT) H L:=by
 have u:1000000<sizeLine:=by decide
 have t:=smu (o:=HO.lst []) l;refine bj.by (cq) (λi v c=>aA H c/\c L=some (.lst (((ds.take i).map f).map V.bl))/\∃ y,v=y::bT) ⟨t,pF,_,U⟩ (λi v c _ h=>h.1.seqT s) ?_ ?_
 · rintro i x v c r ⟨e,g,y,rfl⟩;obtain⟨d,k,p⟩:=j.get r;rw[aL,fq];refine aJ (step x d c _ (p.same e) (mGE k) e λz m=>?_);refine⟨_,m _ _ g,?_,aK (e.trans m) l,?_,_,U⟩
   · rw[lMp,lMp,lTk];omega
   · rw[pF,tAO,k,List.map_append,List.map_append];rfl
 · rintro v c ⟨e,g,y,rfl⟩;rw[j.length,List.take_length] at g;exact q _ e (SqL.of g)
def all_map {ds:PDs}:((ds.map f).all id)=ds.all f:=by rw[List.all_map];rfl
end
def vR {K:Fg} {bs:List Bool} {Q:VK} (h:SqL K H p (bs.map V.bl)) (q:Q (.bl (bs.all id)) H):∃ (b:Addr) (a:List Bool),[V.ref p]=[.ref b]/\SqL K H b (a.map V.bl)/\Q (.bl (a.all id)) H:=⟨p,bs,U,h,q⟩
def cM (h:x∈l):wt x<=wts l:=by
 induction l with
 | nil=>cases h
 | cons y r a =>
  rw[wts]
  rcases List.mem_cons.mp h with rfl | h
  · exact Nat.le_add_right ..
  · grind
def lq:cA "tuple" d=isT d:=by cases d <;> rfl
def fJ {v:α} (e:lkT t h=some v):(h,v)∈t:=by
 unfold lkT at e;obtain⟨p,a,rfl⟩:=oMS.mp e;have b:=List.find?_some a;have c:=List.mem_of_find?_eq_some a;have d:=of_decide_eq_true b;rw[<- d];exact c
def sA {t:List (Str×α)} (e:lkT t h=none):h∉t.map (·.1):=by
 unfold lkT at e;rw[Option.map_eq_none_iff,List.find?_eq_none] at e;intro b;obtain⟨p,a,rfl⟩:=List.mem_map.mp b;exact e p a (decide_eq_true U)
section
variable {P:Program} {w:World} {K:Fg} {Y:SOV} {base:Heap}
inductive AY (K:Fg) (vs:List V) (H:Hp) (Q:VK):Prop
  | mk (s:Str) (v:V) (d:PyData) (h0:vs=[.str s,v]) (h1:BD K H v d) (h2:wt d<=900000) (q:∀ H',aA H H'->Q (.bl (cf s d)) H'):AY K vs H Q
def Di (K:Fg):Sp:=λvs H Q _=>AY K vs H Q
abbrev sFs:Stmt:=top 23
abbrev nFs:List Str:=["slot","thing"]
def Ga:aM nFs ["slot","thing"] (ad sFs):=fsM
def EF (D:Def K Y "fits_slot" sFs) (T:Blt K Y) (C:Glb P w K Y) (L:Fn P w K Y base "is_whole" 1 ["thing"] (spA isW K)) (S:Fn P w K Y base "is_whole_within" 2 ["thing","least","most"] (lK K)) (jL:Fn P w K Y base "is_name" 1 ["word"] qw):Fn P w K Y base "fits_slot" 3 ["slot","thing"] (Di K):=by
 refine D.fn Ga ?P (λ_ _ _ _ _ _ us hl=>by obtain⟨a,b,rfl⟩:=f8 hl;rfl) (λf kb A F s H vs Q E j h=>?_)
 · obtain⟨s,v,d,rfl,_⟩:=h;rfl
 · obtain⟨s,v,d,rfl,c,o,q⟩:=h;obtain⟨tl,Z⟩:=C.least;obtain⟨tg,gg⟩:=C.greatest;obtain⟨tp,gp⟩:=C.params;obtain⟨M,I,go,dO,o1,o2⟩:=C.ops;have hu:=dN j;refine⟨_,(pE (aE (pP aZ ?C pD (pQ _)) ?O am)
 (pE (aE (pP aZ ?C pD (pQ _)) (pH (ak (bO T.isinstance (pA ?E (pA (ba (v:=.ty "tuple") U T.tuple bG U) pC))))) am)
 (pE (aE (pP aZ ?C pD (pQ _)) (pH (ak (cJ (bO T.isinstance (pA ?E (pA (ba (v:=.ty "tuple") U T.tuple bG U) pC))) (cJ (bL fV (bq T.len (pA ?E pC)) (cD (v:=.int 4) U gp ⟨_,U⟩) (pQ _)) (de (lI T.all (pA (cO (own:=["part"]) (outs:=[]) U (aG.of (ad sFs) nFs) (cI ?E) (λ_ _ _ _=>⟨(ax (i:=0) (nd1 _) U ?D),bC,(aB L (j.mono ?G) U (pA ?C pC))⟩)) pC))))))) am)
 (pE (aE (pP aZ ?C pD (pQ _)) (pH (ak (aB S (j.mono ?G) U (pA ?E (pA (cD (v:=.int (-32768)) U Z ⟨_,U⟩) (pA (cD (v:=.int 32767) U gg ⟨_,U⟩) pC)))))) am)
 (pE (aE (pP aZ ?C pD (pQ _)) (pH (ak (cJ (bO T.isinstance (pA ?E (pA (ba (v:=.ty "str") U T.str cG U) pC))) (de (aB jL (j.mono ?G) U (pA ?E pC)))))) am)
 (pE (aE (pP aZ ?C pD (pQ _)) (pH (ak (cJ (bO T.isinstance (pA ?E (pA (ba (v:=.ty "str") U T.str cG U) pC))) (de (ww (BI ?E (cD (v:=.ref M) U go U))))))) am)
 (pH (ak (aB L (j.mono ?G) U (pA ?E pC)))))))))),?_⟩
   ext b;have J:cf s d=(if s="one" then true else if s="many" then isT d else if s="bounds" then ik d else if s="number" then wIn (-32768) 32767 d else if s="word" then fW d else if s="op" then opD d else isW d):=rfl;rw[J] at q;refine ?T;by_cases k:s="one"
   · rw[if_pos k] at q;exact pK (by simp[k]) (q H (aA.refl H))
   rw[if_neg k] at q;refine pJ (by simpa using k) ?T;by_cases y:s="many"
   · rw[if_pos y] at q;refine pK (by simp[y]) ⟨_,U,v,d,_,U,c,iB,T.kit,?_⟩;rw[lq];exact q H (aA.refl H)
   rw[if_neg y] at q;refine pJ (by simpa using y) ?T;by_cases m:s="bounds"
   · rw[if_pos m] at q;refine pK (by simp[m]) ⟨_,U,v,d,_,U,c,iB,T.kit,_,U,?_⟩;cases e:cA "tuple" d with
     | false =>
      have f:ik d=false:=by cases d <;> first | rfl | cases e
      rw[f] at q;exact aP (q H (aA.refl H))
     | true =>
      obtain⟨l,rfl⟩:=eZ e;obtain⟨a,xs,rfl,B,O⟩:=c.tup_of;have f:ik (.tuple l)=(decide (l.length<=4)&&l.all isW):=rfl;rw[f] at q;refine aJ ⟨_,U,a,xs,U,.inr B,_,_,U,U,_,U,?_⟩;rw[O.length];by_cases g:l.length<=4
      · rw[decide_eq_true g] at q;refine pK ?Q ?_;rw[ie,dq,bU];refine⟨_,U,a,U,⟨_,B⟩,λL hL=>?_⟩;have hlw:=cN l;rw[aC] at o;refine pY (bT:=[]) isW B O hL ?A ?_ ?_
        · exact λx d H' R W hd N r=>⟨_,U,x,d,U,W,by have:=cM hd;omega,r⟩
        · refine λH' N G=>vR G ?_;rw[all_map];exact q H' N
      · rw[decide_eq_false g] at q;exact pJ ?Q (q H (aA.refl H))
   rw[if_neg m] at q;refine pJ (by simpa using m) ?T;by_cases g:s="number"
   · rw[if_pos g] at q;exact pK (by simp[g]) ⟨_,U,v,d,_,_,U,c,o,q⟩
   rw[if_neg g] at q;refine pJ (by simpa using g) ?T;by_cases n:s="word"
   · rw[if_pos n] at q;refine pK (by simp[n]) ⟨_,U,v,d,_,U,c,lR,T.kit,_,U,?_⟩;cases e:cA "str" d with
     | false =>
      have f:fW d=false:=by cases d <;> first | rfl | cases e
      rw[f] at q;exact aP (q H (aA.refl H))
     | true =>
      obtain⟨z,rfl⟩:=gq e;rw[dv] at o;rw[c.str_of];exact aJ ⟨_,U,z,U,by omega,q⟩
   rw[if_neg n] at q;refine pJ (by simpa using n) ?T;by_cases u:s="op"
   · rw[if_pos u] at q;refine pK (by simp[u]) ⟨_,U,v,d,_,U,c,lR,T.kit,_,U,?_⟩;cases e:cA "str" d with
     | false =>
      have f:opD d=false:=by cases d <;> first | rfl | cases e
      rw[f] at q;exact aP (q H (aA.refl H))
     | true =>
      obtain⟨z,rfl⟩:=gq e;rw[c.str_of];refine aJ ⟨_,U,M,I,.inr z,U,dO,U,?_⟩;have f:opD (.str z)=(lkT opT z).isSome:=rfl;rw[f] at q;cases t:lkT opT z with
      | none=>rw[o2 z (sA t)];rw[t] at q;exact q H (aA.refl H)
      | some p=>obtain⟨r,IX,_⟩:=o1 z p.1 p.2 (fJ t);rw[IX];rw[t] at q;exact q H (aA.refl H)
   rw[if_neg u] at q;exact pJ (by simpa using u) ⟨_,U,v,d,U,c,o,q⟩
end
def nd2:(["slot","part"]:List Str).Nodup:=by left
def yo {ps:PDs} (a:sl[i]?=some s) (b:ps[i]?=some d):(List.zipWith cf sl ps).take (i+1)=(List.zipWith cf sl ps).take i++[cf s d]:=by
 rw[tAO];congr 1;rw[List.getElem?_zipWith,a,b];rfl
section
variable {P:Program} {w:World} {K:Fg} {mg:SOV} {base:Heap}
abbrev sEx:Stmt:=top 24
abbrev nEx:List Str:=["thing","slots"]
def DM:aM nEx ["thing"] (ad sEx):=fsM
def uE (h:cA "tuple" d=false):cB d=false:=by cases d <;> first | rfl | cases h
def uD {l:PDs} (h:cA "str" x=false):cB (.tuple (x::l))=false:=by cases x <;> first | rfl | cases h
def uC {ps:PDs}:cB (.tuple (.str h::ps))=(match lkT tbl h with | none=>false | some a=>decide (ps.length=a.length)&&(List.zipWith cf a ps).all id):=rfl
def EJ (D:Def K mg "is_expression" sEx) (T:Blt K mg) (C:Glb P w K mg) (qj:Fn P w K mg base "fits_slot" 3 ["slot","thing"] (Di K)):Fn P w K mg base "is_expression" 4 ["thing"] (spA cB K):=by
 refine D.fn DM ?P (λ_ _ _ _ _ _ us J=>by obtain⟨a,rfl⟩:=dM J;rfl) (λf kb A O s H vs Q E hr h=>?_)
 · ext j
 · obtain⟨v,d,rfl,hv,hw,q⟩:=h;have nd:=DM.nd;obtain⟨B,p,gS,dS,o1,o2⟩:=C.slots;ext c
   refine⟨_,(pE (aE (PW.pt (bF (aU (aQ (bO T.isinstance (pA ?C (pA (ba (v:=.ty "tuple") U T.tuple bG U) pC))))) (bF (aU (gK ?C (by intro _;rfl))) (bF (aU (aQ (bO T.isinstance (pA ?I (pA (ba (v:=.ty "str") U T.str cG U) pC))))) (bJ (l0 (ud ?I (cD (v:=.ref B) U gS U))))))))
     ?O am)
 (pE (pN (i:=1) nd U ?D (nC (cD (v:=.ref B) U gS U) ?I ?H))
 (pE (aE (pP fz (bq T.len (pA ?C pC)) (aT bY pG (bq T.len (pA ?E pC))) (pQ _)) ?O am)
 (pH (ak (lI T.all (pA (cO (own:=["slot","part"]) (outs:=[]) (g:=ph K 2 (fD (cP 0) (fD (cP 1) pi))) U (aG.of (ad sEx) nEx) (sf U T.zip (pA ?E (pA (cF qz ?C (cC pG) dE) pC))) (λ_ _ _ _=>⟨(cv (n:=2) U (aF (ax (i:=0) nd2 U ?D (Or.inr U)) (aF (ax (i:=1) nd2 U ?D (Or.inr U)) bI))),bC,(aB qj ?S U (pA ?C (pA ?E pC)))⟩)) pC))))))),?_⟩
   ext b;have c:=q H (aA.refl H);refine ab λjP f9=>?_;refine⟨_,U,v,d,_,U,hv,iB,T.kit,_,U,?_⟩;cases e:cA "tuple" d with
   | false=>rw[uE e] at c;exact aJ (aJ c)
   | true =>
   obtain⟨l,rfl⟩:=eZ e;obtain⟨a,f,rfl,m,hx⟩:=hv.tup_of;refine aP ⟨_,U,_,.inr (.inl ⟨f,m,U⟩),?_⟩;cases hx with
   | nil=>exact aJ (aJ c)
   | @cons x d0 f ps Jv hxs =>
   refine aP ⟨_,U,a,_,0,x,U,U,m,pI (j:=0) U,x,d0,_,U,Jv,lR,T.kit,_,U,?_⟩;cases e2:cA "str" d0 with
   | false=>rw[uD e2] at c;exact aJ (aJ c)
   | true =>
   obtain⟨h,rfl⟩:=gq e2;obtain rfl:=Jv.str_of;rw[uC] at q c;refine aP ⟨_,U,a,_,0,_,U,U,m,pI (j:=0) U,B,p,.inr h,U,dS,U,?_⟩;cases I:lkT tbl h with
   | none=>rw[o2 h (sA I)];rw[I] at c;exact⟨_,U,aJ c⟩
   | some G =>
   obtain⟨r,JF,N⟩:=o1 h G (fJ I);rw[I] at q c;rw[JF];refine⟨_,U,aP (f9 _ _ ?_)⟩;have hlx:=hxs.length;refine ab λmy gH=>?_;refine⟨_,U,a,_,0,_,U,U,m,pI (j:=0) U,B,p,.inr h,.ref r,U,dS,U,JF,?_⟩;refine gH _ _ (ab λjx fC=>?_);refine⟨_,U,a,_,U,.inr m,_,U,r,_,U,.inr (N H),_,_,U,U,U,_,U,?_⟩;dsimp only at q c;by_cases J:ps.length=G.length
   case neg =>
    rw[decide_eq_false J] at c;exact pK ?Q c
   rw[decide_eq_true J,Bool.true_and] at q c;refine pJ ?Q (fC _ _ ?_);rw[gr,ie,dq,bU];refine⟨_,U,_,U,_,U,a,_,U,m,?_,λp2 Jw=>?_⟩
   · unfold HT.sIx;simp
   rw[show (some (1:Int))=some (((1:Nat):Nat):Int) from rfl,lB];have M:=smu (o:=HO.tup ((V.str h::f).drop 1)) Jw;have Y:(upd H p2 (.tup ((V.str h::f).drop 1))) p2=some (.tup f):=pF;generalize upd H p2 (.tup ((V.str h::f).drop 1))=H2 at M Y ⊢;refine⟨r,p2,_,_,U,N _,SqT.of Y,λL hL=>?_⟩;have k3:=smu (o:=HO.lst []) hL;have hlw:=cN ps;have hw1:wts ps<=900000:=by rw[aC,wts] at hw;omega
   refine bj.zipT (xs:=G.map V.str) (ys:=f) (by rw[lMp];omega) (λi σ k=>aA H2 k/\k L=some (.lst (((List.zipWith cf G ps).take i).map V.bl))/\∃ y z,σ=[y,z]) ⟨k3,pF,_,_,U⟩ (λi σ k _ z=>⟨N _,SqT.of (z.1 _ _ Y)⟩) ?_ ?_
   · rintro i x y σ k t Ih JM ⟨si,F,y1,z1,rfl⟩ ht;rw[gEM] at Ih;obtain⟨b,W,rfl⟩:=oMS.mp Ih;obtain⟨d,Ji,hd⟩:=hxs.get JM;have Z:=smu (o:=HO.tup [V.str b,y]) ht;ext o;have R:=si.trans Z;have u:=Z _ _ F;generalize upd k t (.tup [V.str b,y])=H4 at Z R u ⊢;dsimp only[fq];refine aJ ⟨_,U,_,U,b,y,d,U,hd.same (M.trans R),by have:=cM (mGE Ji);omega,λH5 s5=>?_⟩;refine⟨_,s5 _ _ u,?_,aK (R.trans s5) hL,?_,_,_,U⟩
     · rw[lMp,lTk,List.length_zipWith];omega
     · rw[pF,yo W Ji,List.map_append];rfl
   · rintro σ k ⟨si,F,y1,z1,rfl⟩;rw[List.take_of_length_le (by rw[List.length_zipWith,lMp];exact Nat.min_le_left ..)] at F;exact vR (SqL.of F) (q k (M.trans si))
abbrev sFu:Stmt:=top 25
def iC (h:Str):Bool:=["function","deep","open"].any λy=>y==h
def fO:PyData->Bool
  | .tuple [.str h,c,_]=>iC h&&wIn 0 4 c
  | _=>false
def G9:aM ["thing"] ["thing"] (ad sFu):=fsM
def mY {k:Nat} (h:mZ (k:Int) d=true):∃ l,d=.tuple l/\l.length=k:=by
 cases d <;> first | cases h | skip
 rename_i l
 have:=h;exact⟨l,U,by have:=of_decide_eq_true this;omega⟩
def sM (h:mZ 3 d=false):fO d=false:=by
 unfold fO;split
 · cases h
 · rfl
def EE (D:Def K mg "is_function" sFu) (T:Blt K mg) (C:Glb P w K mg) (z:Fn P w K mg Z "is_tuple_of" 1 ["thing","many"] (yK K)) (F:Fn P w K mg Z "is_whole_within" 2 ["thing","least","most"] (lK K)):Fn P w K mg Z "is_function" 3 ["thing"] (spA fO K):=by
 refine D.fn G9 ?P (λ_ _ _ _ _ _ O n=>by obtain⟨a,rfl⟩:=dM n;rfl) (λf S A m s H W Q E y h=>?_)
 · ext j
 · obtain⟨v,d,rfl,u,G,q⟩:=h;obtain⟨N,J⟩:=C.params;obtain⟨p,L,M⟩:=C.heads;refine⟨_,(pE (aE (PW.pt (bF (aU (aQ (aB z (y.mono ?G) U (pA ?C (pA pG pC))))) (bF (aU (aQ (bO T.isinstance (pA ?I (pA (ba (v:=.ty "str") U T.str cG U) pC))))) (bJ (pP iV ?I (cD (v:=.ref p) U L U) (by with_unfolding_all rfl)))))) ?O am)
 (pH (ak (aB F (y.mono ?G) U (pA ?I (pA pG (pA (cD (v:=.int 4) U J ⟨_,U⟩) pC))))))),?_⟩
   ext b;have b:=q H (aA.refl H);refine⟨_,U,v,d,3,U,u,_,U,?_⟩;cases e:mZ 3 d with
   | false=>rw[sM e] at b;exact aJ (aJ b)
   | true =>
   obtain⟨l,rfl,n⟩:=mY (k:=3) e;obtain⟨c,g,t,rfl⟩:=gG n;obtain⟨a,R,rfl,i,f⟩:=u.tup_of;cases f with
   | cons r f =>
   cases f with
   | cons B f =>
   refine aP ⟨_,U,a,_,0,_,U,U,i,pI (j:=0) U,_,c,_,U,r,lR,T.kit,_,U,?_⟩;cases x:cA "str" c with
   | false =>
    have:fO (.tuple [c,g,t])=false:=by cases c <;> first | rfl | cases x
    rw[this] at b;exact aJ (aJ b)
   | true =>
   obtain⟨h,rfl⟩:=gq x;obtain rfl:=r.str_of;have I:fO (.tuple [.str h,g,t])=(iC h&&wIn 0 4 g):=rfl;rw[I] at q b;refine aP ⟨_,U,a,_,0,_,U,U,i,pI (j:=0) U,p,_,U,.inr (M H),U,dB ["function","deep","open"],_,U,?_⟩;rw[show (inV (V.str h) [V.str "function",V.str "deep",V.str "open"])=iC h from eT h ["function","deep","open"]];cases o:iC h with
   | false=>rw[o] at b;exact aJ b
   | true =>
   rw[o,Bool.true_and] at q;refine aP ⟨_,U,a,_,1,_,U,U,i,pI (j:=1) U,_,g,0,4,U,B,?_,q⟩;rw[aC,wts,wts] at G;omega
abbrev sOp:Stmt:=top 26
def fU:PyData->Bool
  | .tuple [.str s,n]=>bD s&&isW n
  | _=>false
def wD (h:mZ 2 d=false):fU d=false:=by
 unfold fU;split
 · cases h
 · rfl
def Ev (D:Def K S "is_open" sOp) (T:Blt K S) (y:Fn P w K S M "is_tuple_of" 1 ["thing","many"] (yK K)) (B:Fn P w K S M "is_whole" 1 ["thing"] (spA isW K)) (G:Fn P w K S M "is_name" 1 ["word"] qw):Fn P w K S M "is_open" 2 ["thing"] (spA fU K):=by
 refine D.fn (N:=["thing"]) fsM ?P (λ_ _ _ _ _ _ J o=>by obtain⟨a,rfl⟩:=dM o;rfl) (λf O A n s H R Q E p h=>?_)
 · ext j
 · obtain⟨v,d,rfl,u,C,q⟩:=h;refine⟨_,(pE (aE (PW.pt (bF (aU (aQ (aB y (p.mono ?G) U (pA ?C (pA pG pC))))) (bJ (aU (aQ (bO T.isinstance (pA ?I (pA (ba (v:=.ty "str") U T.str cG U) pC)))))))) ?O am)
 (pH (ak (cJ (aB G (p.mono ?G) U (pA ?I pC)) (de (aB B (p.mono ?G) U (pA ?I pC))))))),?_⟩
   ext b;have b:=q H (aA.refl H);refine⟨_,U,v,d,2,U,u,_,U,?_⟩;cases e:mZ 2 d with
   | false=>rw[wD e] at b;exact aJ (aJ b)
   | true =>
   obtain⟨l,rfl,o⟩:=mY (k:=2) e;obtain⟨c,i,rfl⟩:=f8 o;obtain⟨a,L,rfl,m,g⟩:=u.tup_of;cases g with
   | cons t g =>
   cases g with
   | cons z g =>
   refine aP ⟨_,U,a,_,0,_,U,U,m,pI (j:=0) U,_,c,_,U,t,lR,T.kit,_,U,?_⟩;cases x:cA "str" c with
   | false =>
    have:fU (.tuple [c,i])=false:=by cases c <;> first | rfl | cases x
    rw[this] at b;exact aJ b
   | true =>
   obtain⟨h,rfl⟩:=gq x;obtain rfl:=t.str_of;have F:fU (.tuple [.str h,i])=(bD h&&isW i):=rfl;rw[F] at q b;rw[aC,wts,wts,dv] at C;refine aP ⟨_,U,a,_,0,_,U,U,m,pI (j:=0) U,h,U,by omega,λZ f=>⟨_,U,?_⟩⟩;cases r:bD h with
   | false=>rw[r] at q;exact aP (q Z f)
   | true =>
   rw[r,Bool.true_and] at q;exact aJ ⟨_,U,a,_,1,_,U,U,f.seqT m,pI (j:=1) U,_,i,U,z.same f,by omega,λH2 I=>q H2 (f.trans I)⟩
end
end K13
namespace L2
open PySem PySem.Spec PyProof.Rows
abbrev zl1 (h:Heap) (a:Addr):Heap:=h.push {cls:=.type "list_iterator",data:=.fields #[.ref a,.int 0 0]}
abbrev zm2 (h:Heap) (a b:Addr):Heap:=zl1 (zt1 h a) b
abbrev zm3 (h:Heap) (a b:Addr):Heap:=(zm2 h a b).push {cls:=.type "tuple",data:=.seq #[.ref h.objs.size,.ref (zt1 h a).objs.size]}
abbrev zm4 (h:Heap) (a b:Addr):Heap:=(zm3 h a b).push {cls:=.type "tuple",data:=.seq #[.none,.none]}
abbrev zm5 (h:Heap) (a b:Addr):Heap:=(zm4 h a b).push {cls:=.type "zip",data:=.fields #[.none,.bool false,.bool false,.ref (zm2 h a b).objs.size,.ref (zm3 h a b).objs.size]}
def qN (a b:Addr) (xs ys:Array Value):Meets (Builtin.«zip.__new__» ⟨[.type "zip",.ref a,.ref b],[]⟩) (λ_ R s=>s.heap.IsTuple a xs/\s.heap.IsList b ys/\R (.ok (.ret (.ref (zm4 s.heap a b).objs.size))) {s with heap:=zm5 s.heap a b}) :=
 .of_wp λprog w A R s h=>by
  obtain⟨hp,g,d,tk,os⟩:=s;obtain⟨ha,hb,h⟩:=h;have sub:=sub_zip;have e1:=ha;have e2:Heap.IsList (Shared.heap ⟨zt1 hp a,g,d,tk,os⟩) b ys:=Heap.IsList.push hb _
  wp_walk using wpAny_pyIter_tuple e1,wpAny_pyIter_list e2
  exact⟨_,U,h⟩
def uO {prog:Program} {w:World} {A:Around} {E:VSP} {s:Shared} {a b:Addr} {xs ys:Array Value} {Q:VSP} (t:s.heap.IsTuple a xs) (u:s.heap.IsList b ys)
 (h:∀ d,IsZip d (s.heap.objs.size+4) (s.heap.objs.size+2) (s.heap.objs.size+3) .none->IsPair d (s.heap.objs.size+2) ?V (.ref (s.heap.objs.size+1))->IsPair d (s.heap.objs.size+3) .none .none ->
   d.IsTupleIter s.heap.objs.size a 0->d.IsListIter (s.heap.objs.size+1) b 0->(∀ c o,s.heap.get? c=some o->d.get? c=some o)->Q (.ref (s.heap.objs.size+4)) {s with heap:=d}) :
 wpAny ?L A (call (.type "zip") [.ref a,.ref b]) Q E s:=by
 refine callType_new F.called_zip ?G (F.typeCall_zip_2 _ _) (F.newCall_zip_2 _ _) (λf=>F.args_object_init_3 f _ _) F.entry_zip_new (qN a b xs ys) ⟨t,u,?_⟩;have g:(zt1 s.heap a).objs.size=s.heap.objs.size+1:=Heap.size_push ..;have i:(zm2 s.heap a b).objs.size=s.heap.objs.size+2:=by rw[Heap.size_push,g]
 have j:(zm3 s.heap a b).objs.size=s.heap.objs.size+3:=by rw[Heap.size_push,i]
 have m:(zm4 s.heap a b).objs.size=s.heap.objs.size+4:=by rw[Heap.size_push,j]
 have n:∀ {c:Addr} {o:Obj},(zt1 s.heap a).get? c=some o->(zm5 s.heap a b).get? c=some o:=λe=>hpS _ (hpS _ (hpS _ (hpS _ e)));have k:(zm5 s.heap a b).get? (zm4 s.heap a b).objs.size=some _:=Heap.get?_push_size _ rfl;have p:(zm5 s.heap a b).get? (zm3 s.heap a b).objs.size=some _:=hpS _ (Heap.get?_push_size _ U);have q:(zm5 s.heap a b).get? (zm2 s.heap a b).objs.size=some _:=hpS _ (hpS _ (Heap.get?_push_size _ U));have r:(zm5 s.heap a b).get? (zt1 s.heap a).objs.size=some _:=hpS _ (hpS _ (hpS _ (Heap.get?_push_size _ U)));have v:(zm5 s.heap a b).get? s.heap.objs.size=some _:=n (Heap.get?_push_size _ U);show _/\_;rw[i,j,m] at k;rw[g,i] at q;rw[j] at p;rw[g] at r;rw[m];exact⟨⟨_,k,U⟩,h _ k q p ⟨_,v,U,U⟩ ⟨_,r,U,U⟩ λc o e=>n (hpS _ e)⟩
def Aa (K:Fg) (a b:Addr):It :=
  ⟨λi H=>∃ xs ys x y,SqT K H a xs/\SqL K H b ys/\xs[i]?=some x/\ys[i]?=some y,λi H v H'=>∃ t x y,v=.ref t/\H t=none/\H'=upd H t (.tup [x,y])/\(∀ xs,SqT K H a xs->xs[i]?=some x)/\∀ ys,SqL K H b ys->ys[i]?=some y,
    λi H=>∃ xs ys,SqT K H a xs/\SqL K H b ys/\(xs.length<=i\/ys.length<=i)⟩
def tV {P:Program} {w:World} {K:Fg} {Ic:List Expr} {k} {pos:Pos} (a b z TI TO l m:Addr) (h0:z≠TI/\z≠TO/\z≠l/\z≠m/\TI≠TO/\TI≠l/\TI≠m/\TO≠l/\TO≠m/\l≠m) (Z:a≠TO/\b≠TO) :
 kh P w K (.Tuple Ic k pos) (Aa K a b) [z,TI,TO,l,m] z (λi h=>IsZip h z TI TO .none/\IsPair h TI (.ref l) (.ref m)/\(∃ u v,IsPair h TO u v)/\h.IsTupleIter l a i/\h.IsListIter m b i) where
 mem:=by simp
 obj:=λi h A c g=>by
  obtain⟨n,B,⟨u,v,J⟩,⟨o4,F,_,d4⟩,⟨o5,t,_,d5⟩⟩:=A;simp only[List.mem_cons,nMN,or_false] at g
  rcases g with rfl | rfl | rfl | rfl | rfl
  · exact⟨_,n,λv z=>by cases z⟩
  · exact⟨_,B,λv z=>by cases z⟩
  · exact⟨_,J,λv z=>by cases z⟩
  · exact⟨_,F,λv z=>by rw[d4] at z;cases z⟩
  · exact⟨_,t,λv z=>by rw[d5] at z;cases z⟩
 keep:=λi h h' A k=>by
  obtain⟨n,B,⟨u,v,J⟩,⟨o4,F,r4⟩,⟨o5,t,r5⟩⟩:=A;exact⟨k z ?B _ n,k TI ?B _ B,⟨u,v,k TO ?B _ J⟩,⟨o4,k l ?B _ F,r4⟩,⟨o5,k m ?B _ t,r5⟩⟩
 item:=by
  intro X hP hw hK g i G s σ H E I hf A hg;subst hP hw hK;obtain⟨xs,ys,x,y,Jk,Jp,hx,hy⟩:=hg;obtain⟨N,rv,p,hz⟩:=I.tuple Jk;obtain⟨HQ,K0,S,hz2⟩:=I.list Jp;obtain⟨u,hu,ru⟩:=rv.get hx;obtain⟨v,hv,rv'⟩:=K0.get hy;obtain⟨n,B,⟨u0,v0,J⟩,F,t⟩:=A;obtain⟨n1,n2,n3,n4,n5,n6,n7,n8,n9,K5⟩:=h0;obtain⟨ol,j,M,_⟩:=id p;obtain⟨ol2,e,L,_⟩:=S.isList;obtain⟨o4,O,T,d4⟩:=id F;obtain⟨o5,Q,W,d5⟩:=id t;have D:ZAp z TI TO l m a b:=⟨⟨n1.symm,n2.symm,n3.symm,n4.symm,bQ j n (by rw[M];simp),bQ e n (by rw[L];simp)⟩,⟨n5,n8.symm,n9.symm,Z.1,Z.2⟩,⟨n6,n7,K5⟩,
    ⟨bQ j O (by rw[M,T];simp),bQ j Q (by rw[M,W];simp),bQ e O (by rw[L,T];simp),bQ e Q (by rw[L,W];simp)⟩⟩
  refine lj D (fL l a D.l_.1 N.toArray) (sT m b D.l_.2.2.2 HQ.toArray) n B J ⟨F,p⟩ ⟨t,S.isList⟩ (by simpa using hu) (by simpa using hv) λh' e1 e2 e3 e4 e5 e7=>?_;refine⟨_,U,wpAny_letOwnedTupleGo_zip e1 λC f1 R=>?_⟩;have lz:=Heap.lt_size n;have keep:∀ c o,c∉[z,TI,TO,l,m]->s.heap.get? c=some o->C.get? c=some o:=λc o g q=>by
   simp only[List.mem_cons,nMN,or_false,not_or] at g;exact (R.2 c g.1).trans (e7 c o g.1 g.2.2.1 g.2.2.2.1 g.2.2.2.2 q)
  have hT:C.get? s.heap.objs.size=some {cls:=.type "tuple",data:=.seq #[u,v]}:=(R.2 _ (Nat.ne_of_gt lz)).trans e5;have I2:Inv X G σ (upd H s.heap.objs.size (.tup [x,y])) {s with heap:=C}:=I.turnedNew (t':=s.toks) hf keep ⟨jk,[u,v],.cons ru (.cons rv' .nil),⟨_,hT,U,_,U⟩⟩;refine⟨.ref s.heap.objs.size,_,I2,U,⟨_,x,y,U,I.hok.fresh ?M,U,λq hq=>by rw[I.tuple_inj hq Jk];exact hx,λq hq=>by rw[I.list_inj hq Jp];exact hy⟩,⟨f1,?_,⟨u,v,(R.2 TO D.z_.2.1).trans e2⟩,?_,?_⟩,λc g=>?_⟩
  · exact (R.2 TI D.z_.1).trans (e7 TI _ D.z_.1 D.o_.1 D.i_.1 D.i_.2.1 B)
  · obtain⟨⟨o,q,r⟩,_⟩:=e3;exact⟨o,(R.2 l D.z_.2.2.1).trans q,r⟩
  · obtain⟨⟨o,q,r⟩,_⟩:=e4;exact⟨o,(R.2 m D.z_.2.2.2.1).trans q,r⟩
  · have hlt:c<s.heap.objs.size:=by
     simp only[List.mem_cons,nMN,or_false] at g
     rcases g with rfl | rfl | rfl | rfl | rfl
     · exact lz
     · exact Heap.lt_size B
     · exact Heap.lt_size J
     · exact Heap.lt_size O
     · exact Heap.lt_size Q
    rw[ai (Nat.ne_of_lt hlt)];exact (hf c g).1
 done:=by
  intro X hP hw hK g i G s σ H E I hf A hg;subst hP hw hK;obtain⟨xs,ys,Jk,Jp,Y⟩:=hg;obtain⟨N,rv,p,hz⟩:=I.tuple Jk;obtain⟨HQ,K0,S,hz2⟩:=I.list Jp;obtain⟨n,B,⟨u0,v0,J⟩,F,t⟩:=A;obtain⟨n1,n2,n3,n4,n5,n6,n7,n8,n9,K5⟩:=h0;obtain⟨ol,j,M,_⟩:=id p;obtain⟨ol2,e,L,_⟩:=S.isList;obtain⟨o4,O,T,d4⟩:=id F;obtain⟨o5,Q,W,d5⟩:=id t;have D:ZAp z TI TO l m a b:=⟨⟨n1.symm,n2.symm,n3.symm,n4.symm,bQ j n (by rw[M];simp),bQ e n (by rw[L];simp)⟩,⟨n5,n8.symm,n9.symm,Z.1,Z.2⟩,⟨n6,n7,K5⟩,
    ⟨bQ j O (by rw[M,T];simp),bQ j Q (by rw[M,W];simp),bQ e O (by rw[L,T];simp),bQ e Q (by rw[L,W];simp)⟩⟩
  have e1:=rv.length;have e2:=K0.length;refine mx (I.ok.hd g) D (fL l a D.l_.1 N.toArray) (sT m b D.l_.2.2.2 HQ.toArray) n B J ⟨F,p⟩ ⟨t,S.isList⟩ (Y.imp (λq=>by simp;lia) λq=>by simp;lia) λh' kp=>⟨U,I.turnedAll (t':=s.toks) hf λc o g q=>?_⟩;simp only[List.mem_cons,nMN,or_false,not_or] at g;exact kp c o g.1 g.2.2.1 g.2.2.2.1 g.2.2.2.2 q
 self:=λ_ _ _ _ _ A h=>wpAny_pyIter_zip A.1 h
def F6 (K:Fg) (ta:TA):TI:=λσ H R=>ta σ H λvs H1=>∃ a b xs ys,vs=[.ref a,.ref b]/\SqT K H1 a xs/\SqL K H1 b ys/\R (Aa K a b) H1
def z8 {O:List Expr} {k} {j:Pos} {p l:Pos} (Q:Gl X "zip") (L:X.mg "zip"=none) (J:PA X [e1,e2] ta) (N:starEach [e1,e2] X.env=[(false,eval e1 X.env),(false,eval e2 X.env)]:=by rfl) (m:starEach [e2] X.env=[(false,eval e2 X.env)]:=by rfl):
 PI X (.Tuple O k j) (.Call (.Name "zip" p) [e1,e2] [] l) (F6 X.K ta):=by
 intro g s σ H R I h;refine Call_ (e8 I Q L qg (PyProof.Rows.callWith_type1 (thn (J l g s σ H _ I h) λus i f=>?_) (by rw[N,m]) (by rw[m];rfl)));obtain⟨vs,F,d,W,P⟩:=f;obtain⟨a,b,xs,ys,e,M,Jp,q⟩:=P;subst e;obtain⟨u,v,rfl,ru,z⟩:=W.two;cases ru;cases z;obtain⟨Z,z,p1,hz⟩:=d.tuple M;obtain⟨HQ,K0,D,Y⟩:=d.list Jp;have B:a<i.heap.objs.size:=by obtain⟨o,e,_⟩:=id p1;exact Heap.lt_size e
 have x:b<i.heap.objs.size:=by obtain⟨o,e,_⟩:=D.isList;exact Heap.lt_size e
 refine uO p1 D.isList λh' r y A w t S=>?_;refine wpAny_pyIter_zip r ?_;have G:=d.kept (t':=i.toks) S;generalize T:i.heap.objs.size=n at r y A w t B x;refine⟨n+4,[n+4,n+2,n+3,n,n+1],_,Aa X.K a b,F,U,G,tV a b (n+4) (n+2) (n+3) n (n+1) (by grind) ⟨Nat.ne_of_lt (Nat.lt_add_right 3 B),Nat.ne_of_lt (Nat.lt_add_right 3 x)⟩,⟨r,y,⟨_,_,A⟩,w,t⟩,λc E=>?_,q⟩;have C:i.heap.objs.size<=c:=by
  rw[T];simp only[List.mem_cons,nMN,or_false] at E
  rcases E with rfl | rfl | rfl | rfl | rfl
  · exact Nat.le_add_right _ _
  · exact Nat.le_add_right _ _
  · exact Nat.le_add_right _ _
  · exact Nat.le_refl _
  · exact Nat.le_add_right _ _
 exact d.fpOk C (d.hok.fresh C)
def jX:Value->Str
  | .str x _=>x
  | _=>""
def oJ (t:SetTable) (n:Nat):(t.orStandIn n).led=t.led/\(t.plain=false->(t.orStandIn n).plain=false):=by
 unfold SetTable.orStandIn;split
 · exact⟨U,id⟩
 · exact⟨U,λ_=>rfl⟩
def uq (t:SetTable) (b:Array (Int×Value)) (k:Int) (x:Value):(layNew t b k x).2.1.led=t.led/\(t.plain=false->(layNew t b k x).2.1.plain=false):=by
 unfold layNew;split
 · rename_i a dm _
   exact oJ (t.put a).1 _
 · exact⟨U,λ_=>rfl⟩
def qR (h:SetTable.laid m f v l p hs=some (t,od)):t.led=l/\t.plain=p:=by
 unfold SetTable.laid at h;cases e:SetTable.layClean m hs with
 | none=>rw[e] at h;cases h
 | some a=>rw[e] at h;cases h;exact⟨U,U⟩
def oN (t:SetTable) (c:Array (Int×Value)) (k:Nat):(relayAll t c k).2.1.led=t.led/\(t.plain=false->(relayAll t c k).2.1.plain=false):=by
 unfold relayAll;cases e:t.relaid (c.map (·.1)) k with
 | none=>exact⟨U,λ_=>rfl⟩
 | some y =>
  obtain⟨h,g⟩:=y;obtain⟨a,b⟩:=qR (show SetTable.laid _ _ _ _ _ _=some (h,g) from e);dsimp only;split
  · exact⟨a,λz=>b.trans z⟩
  · exact⟨U,λ_=>rfl⟩
structure gz (prog:Program) (w:World) (h:Heap) (a:Addr) (ss:List Str) (n:Nat) (o:Obj) (es:Array (Int×Value)) (ep:Nat) (t:SetTable):Prop where
  at_:h.get? a=some o
  ex:o.ExactSet
  dt:o.data=.set es ep t
  el:ElemsOf (aI prog w) es.toList
  sz:es.size<=n
  ft:t.fits es.size=true
  ld:t.led=!(w.params.followText "set-order")
  pl:es.size=0\/t.plain=false
  st:∀ e∈es.toList,∃ x u,e.2=.str x u/\x∈ss
  nd:(es.toList.map λe=>jX e.2).Nodup
  al:∀ x∈ss.take n,∃ e∈es.toList,jX e.2=x
section
variable {prog:Program} {w:World} {A:Around} {E:VSP} {s:Shared} {a:Addr} {ss:List Str} {n:Nat} {o:Obj} {c:Array (Int×Value)} {F:Nat} {t:SetTable}
def gz.of_same (S:gz prog w h a ss n o c F t) (e:h'.get? a=some o):gz prog w h' a ss n o c F t:=⟨e,S.ex,S.dt,S.el,S.sz,S.ft,S.ld,S.pl,S.st,S.nd,S.al⟩
def isK (x:Str) (u:Tok):(aI prog w).is (.inr x) (.str x u)=true:=by
 show Value.isStrOf x (.str x u)=true;simp[Value.isStrOf]
def gz.store (S:gz prog w h a ss n o c F t) (i:ElemsOf (aI prog w) b.toList) (sz:b.size<=m) (f:t'.fits b.size=true) (g:t'.led=t.led) (pl:t'.plain=false)
 (st:∀ e∈b.toList,∃ x u,e.2=.str x u/\x∈ss) (k:(b.toList.map λe=>jX e.2).Nodup) (j:∀ x∈ss.take m,∃ e∈b.toList,jX e.2=x):
 gz prog w (h.update a (Obj.putSet b t')) a ss m {o with data:=.set b (F+1) t'} b (F+1) t':=by
 have d:=Heap.get?_update_self (Obj.putSet b t') S.at_ (by rw[putSet_of b t' S.dt];rfl);rw[putSet_of b t' S.dt] at d;exact⟨d,S.ex,U,i,sz,f,g.trans S.ld,.inr pl,st,k,j⟩
def gz.add {x:Str} {u:Tok} {Q:Bool->Shared->Prop} (S:gz prog w s.heap a ss n o c F t) (IG:ss[n]?=some x) (hn:n+1<scanBound)
 (h:∀ (b:Bool) p H f g I,Heap.SameBut a s.heap p->gz prog w p a ss (n+1) H f g I->Q b {s with heap:=p}) :
 wpAny ?L A (setAddHashed a (.str x u) ((aI prog w).hash (.inr x))) Q E s:=by
 have hlt:c.size<scanBound:=by have:=S.sz;omega
 have hx:=mGE IG;have N:∀ y∈ss.take (n+1),y∈ss.take n\/y=x:=λy r=>by rw[tAO,IG] at r;rcases mAp.mp r with z | z;exact .inl z;exact .inr (mSg.mp z)
 have O:∀ (b:Bool) {s1:Shared} {Q':Unit->Shared->Prop},Q' () s1->wpAny ?L A (match b with | true=>rule "set.scan.the-table-gave-way" | false=>pure ()) Q' E s1 :=
  λb s1 Q' z=>by cases b <;> first | exact wP z | exact wpAny_rule z
 unfold setAddHashed setAddHashedIn;refine wpAny_holding (wB (wpAny_setState_of S.at_ S.dt S.ft ?_));dsimp only;rw[byScan_of (knd:=aI prog w) (x:=.str x u) U hlt S.el];simp only[↓reduceIte];unfold setAddByScan;refine wB (wB (wpAny_rule (wB (wpAny_setScan_of (knd:=aI prog w) (k:=.inr x) (isK x u) S.at_ S.dt S.ft S.el ?_))));cases hr:List.findIdx? (λe=>(aI prog w).is (.inr x) e.2) c.toList with
 | some j =>
  dsimp only;refine wP (wP ?_);obtain⟨hj1,P,_⟩:=List.findIdx?_eq_some_iff_getElem.mp hr;refine h false s.heap o c F t (Heap.SameBut.refl a s.heap) ⟨S.at_,S.ex,S.dt,S.el,Nat.le_succ_of_le S.sz,S.ft,S.ld,S.pl,S.st,S.nd,λy r=>?_⟩
  rcases N y r with z | rfl
  · exact S.al y z
  · have hm:=List.getElem_mem hj1;obtain⟨y',v,ev,_⟩:=S.st _ hm;refine⟨_,hm,?_⟩;rw[ev] at P ⊢;have q:(y'==y)=true:=P;exact eq_of_beq q
 | none =>
  dsimp only;have T:=List.findIdx?_eq_none_iff.mp hr;have B:=layNew_perm t c ((aI prog w).hash (.inr x)) (.str x u);have C:=layNew_fits t c ((aI prog w).hash (.inr x)) (.str x u);obtain⟨D,W⟩:=uq t c ((aI prog w).hash (.inr x)) (.str x u);generalize layNew t c ((aI prog w).hash (.inr x)) (.str x u)=L at B C D W ⊢;obtain⟨d,t1,dm,gv⟩:=L;dsimp only at B C D W ⊢;rw[Array.toList_push] at B;have Y:ElemsOf (aI prog w) d.toList:=(S.el.push (isK x u) U).perm B;have z1:d.size<=n+1:=by
   rw[<- Array.length_toList,B.length_eq,lAp,Array.length_toList];have:=S.sz;simp only[List.length_singleton];omega
  have Z:∀ e∈d.toList,∃ y v,e.2=.str y v/\y∈ss:=λe l=>by
   rcases mAp.mp (B.mem_iff.mp l) with l | l
   · exact S.st e l
   · rw[mSg.mp l];exact⟨x,u,U,hx⟩
  have nd1:(d.toList.map λe=>jX e.2).Nodup:=by
   rw[(B.map λe=>jX e.2).nodup_iff,List.map_append,List.nodup_append];refine⟨S.nd,by simp,λy r z hz=>?_⟩;obtain⟨e,l,rfl⟩:=List.mem_map.mp r;rw[List.mem_map] at hz;obtain⟨e2,JK,rfl⟩:=hz;rw[mSg.mp JK];intro q;obtain⟨y,v,ev,_⟩:=S.st e l;have hb:=T e l;rw[ev] at hb q;have q':y=x:=q;rw[q',isK x v] at hb;cases hb
  have al1:∀ y∈ss.take (n+1),∃ e∈d.toList,jX e.2=y:=λy r=>by
   rcases N y r with z | rfl
   · obtain⟨e,l,q⟩:=S.al y z;exact⟨e,B.mem_iff.mpr (List.mem_append_left _ l),q⟩
   · exact⟨_,B.mem_iff.mpr (List.mem_append_right _ (mSg.mpr U)),U⟩
  have Jq:d.size<scanBound:=Nat.lt_of_le_of_lt z1 hn;have fin:∀ (m:SetTable) {Q2:Option Bool->Shared->Prop},m.fits d.size=true->m.led=t.led->m.plain=false->(∀ p H f g I,Heap.SameBut a s.heap p->gz prog w p a ss (n+1) H f g I->Q2 (some true) {s with heap:=p}) ->
   wpAny ?L A (do
     storeSet a d m
     if (!dm&&m.tooFull)=true then do
       (match (relayAll m d (SetTable.grown d.size)).2.2 with | true=>rule "set.scan.the-table-gave-way" | false=>pure ())
       storeSet a (relayAll m d (SetTable.grown d.size)).1 (relayAll m d (SetTable.grown d.size)).2.1
       pure (some true)
     else pure (some true)) Q2 E s:=by
   intro m Q2 f2 l2 p2 k2;have S1:=S.store Y z1 f2 l2 p2 Z nd1 al1;refine wB (wpAny_storeSet_of S.at_ S.dt ?_ (fits_of_scanBound Jq));split
   · have i:=relayAll_perm m d (SetTable.grown d.size);have J:=relayAll_fits m d (SetTable.grown d.size);obtain⟨g1,g2⟩:=oN m d (SetTable.grown d.size);generalize relayAll m d (SetTable.grown d.size)=R at i J g1 g2 ⊢;obtain⟨es2,t3,gv2⟩:=R;dsimp only at i J g1 g2 ⊢;have z2:es2.size<=n+1:=by rw[<- Array.length_toList,i.length_eq,Array.length_toList];exact z1
     refine wB (O _ (wB (wpAny_storeSet_of S1.at_ U (wP ?_) (fits_of_scanBound (Nat.lt_of_le_of_lt z2 hn)))));exact k2 _ _ _ _ _ ((Heap.SameBut.update s.heap a _).trans (Heap.SameBut.update _ a _)) (S1.store (Y.perm i) z2 J g1 (g2 p2) (λe l=>Z e (i.mem_iff.mp l)) ((i.map λe=>jX e.2).nodup_iff.mpr nd1) λy r=>by obtain⟨e,l,q⟩:=al1 y r;exact⟨e,i.mem_iff.mpr l,q⟩)
   · exact wP (k2 _ _ _ _ _ (Heap.SameBut.update s.heap a _) S1)
  refine wB (O _ ?_);by_cases hp:t1.plain=true
  · rw[if_pos hp,hashByValue_scannable 8 (show (Value.str x u).scannable=true from rfl)];refine wB (wP ?_);exact fin {t1 with plain:=false} (SetTable.fits_plain_off C) D U λp H f g I sb S'=>wP (h true p H f g I sb S')
  · rw[if_neg hp];refine wB (wP ?_);exact fin t1 C D (Bool.eq_false_iff.mpr hp) λp H f g I sb S'=>wP (h true p H f g I sb S')
end
section
variable {prog:Program} {w:World} {A:Around} {R:Result->Shared->Prop} {I:Addr} {fp l:List Addr} {G:Array GenState->Array GenState->Prop} {n:Nat} {P:Nat->Value->Prop} {St:Nat->Shared->Prop} {ss:List Str}
def vF (W:WalksS prog w A.in1 I fp l G n P St) (S:Addr) (g:S∉fp) (Z:∀ i v,P i v->∃ x u,v=Value.str x u/\ss[i]?=some x) (hb:n+1<scanBound) :
 ∀ (k i:Nat) (s:Shared) (o:Obj) (r:Array (Int×Value)) (ep:Nat) (t:SetTable),n-i=k->i<=n->St i s->gz prog w s.heap S ss i o r ep t ->
  (∀ s' C a d J,Moved (S::l) G s s'->gz prog w s'.heap S ss n C a d J->R (.ok (.ret .none)) s') ->
  codeAny ?L A (.builtin "set.update.loop" ⟨[.ref S,.ref I],[]⟩) R s:=by
 have K:=λz=>g (W.sub _ z);have h:∀ b∈l,b∈S::l:=λb z=>mCM _ z;intro k
 induction k with
 | zero =>
  intro i s o r ep t hk Q m j B;obtain rfl:i=n:=by omega
  refine codeAny_builtin PyProof.Rows.F.entry_set_update_loop (by rw[Around.under_plainId PyProof.Rows.F.plain_set_update_loop _];refine wB (W.done s _ _ m λs' f=>?_);exact wP (B s' _ _ _ _ (f.mono h) (j.of_same (f.heap S _ K j.at_))))
 | succ k M =>
  intro i s o r ep t hk Q m j B;have lt:i<n:=by omega
  refine codeAny_builtin PyProof.Rows.F.entry_set_update_loop ?_;rw[Around.under_plainId PyProof.Rows.F.plain_set_update_loop _];refine wB (W.item i s _ _ lt m λv Y pv y f=>?_);obtain⟨x,u,rfl,N⟩:=Z i v pv;have O:=j.of_same (f.heap S _ K j.at_);refine wB (wpAny_holding (by
    unfold setAdd;refine wpAny_holding (wB ((aI prog w).pyHash (isK x u) ?_));refine gz.add O N ?A λb h' C a d J L S2=>?_;refine wP ⟨plainId_quiet PyProof.Rows.F.plain_set_update_loop _,M (i+1) _ C a d J ?A lt (W.frame _ Y _ _ y (Nat.le_succ _) λc E q e=>?_) S2 λs3 o3 H D t3 p T=>?_⟩
    · rw[L.2 c λz=>g (by rw[<- z];exact E)];exact e
    · refine B s3 o3 H D t3 (Moved.trans W.gtrans ((f.mono h).then_heap (Nat.le_succ _) λc q E e=>?_) p) T;rw[L.2 c λz=>E (by rw[z];exact mCS)];exact e))
end
section
variable {prog:Program} {w:World} {A:Around} {E:VSP} {s:Shared}
abbrev jZ (w:World):Obj:={cls:=.type "set",dict:=none,data:=.set #[] 0 (.fresh 0 0 (!(w.params.followText "set-order")))}
def yO (a:Value) {Q:VSP} (h:Q ?V {s with heap:=s.heap.push (jZ w)}) :
 codeAny ?L A (.call (.builtin "set.__new__") ⟨[.type "set",a],[]⟩) (wants Q E) s:=by
 refine codeAny_of_tree (by
   refine wB (wpAny_of_eq (PySem.F.newCall_set_1 a) (wP ⟨plainId_quiet PySem.F.plain_set_new _,codeAny_builtin PySem.F.entry_set_new ?_⟩));rw[Around.under_plainId PySem.F.plain_set_new _];unfold Builtin.«set.__new__» Builtin.Frozenset.newClass;have f:=sub_set_self;obtain⟨j,g,d,tk,k⟩:=s;wp_walk
   refine wpAny_askSetting (wP ?_);simp only[newObj];exact wB (wpAny_alloc (wP (wP h))))
end
section
variable {prog:Program} {w:World} {A:Around} {E:VSP} {s:Shared}
def vI {Q:VSP} (hh:A.handled=none) (hl:s.heap.IsList l its) (hv:∀ (i:Nat) (v:Value),its[i]?=some v->∃ x u,v=Value.str x u/\ss[i]?=some x) (hb:its.size+1<scanBound)
 (h:∀ f tk o es ep t,gz prog w f s.heap.objs.size ss its.size o es ep t->(∀ b q,s.heap.get? b=some q->f.get? b=some q)->Q ?V {s with heap:=f,toks:=tk}):
 wpAny ?L A (call (.type "set") [.ref l]) Q E s:=by
 obtain⟨c,tl,hmro⟩:=PySem.F.called_set.mro;have hmade:=PySem.F.called_set.made;have hsub:=PySem.F.called_set.sub;refine wpAny_call (codeAny_of_tree (by
   show wpAny _ _ (callAny (.type "set") _) _ _ _;refine wP ⟨Code.quiet_builtin _ (by left),codeAny_builtin PySem.F.entry_type_call ?_⟩;rw[Around.under_plain (weight_type_call_type "set" [.ref l] []) U];have h1:=PySem.F.called_set.notType;have h2:=PySem.F.called_set.canCreate;have hct:=PySem.F.typeCall_set_1 (.ref l)
   repeat (any_goals (first | assumption | wp_step))
   refine codeAny_mono (yO (.ref l) (E:=E) (Q:=λobj s1=>obj=.ref s.heap.objs.size/\s1={s with heap:=s.heap.push (jZ w)}) ⟨U,U⟩) λr s1 hr=>?_;cases r with
   | error e=>exact hr
   | ok fl =>
     cases fl with
     | ret obj =>
       obtain⟨rfl,rfl⟩:=hr;have hS:(s.heap.push (jZ w)).get? s.heap.objs.size=some (jZ w):=Heap.get?_push_size _ U;have hT:Shared.TypeIs {s with heap:=s.heap.push (jZ w)} ?V "set":=⟨_,hS,U⟩;have hli:=PySem.F.called_set.init.lookup;have hbi:=PySem.F.called_set.init.bind ?V
       repeat (any_goals (first | assumption | wp_step))
       refine codeAny_mono (codeAny_call_builtin (R:=wants (λr s2=>r=.none/\∃ f tk o es ep t,s2={s with heap:=f,toks:=tk}/\gz prog w f s.heap.objs.size ss its.size o es ep t/\∀ b q,s.heap.get? b=some q->f.get? b=some q) E) PySem.F.called_set.init.plain PySem.F.entry_set_init (check_set_init_1 hT ?_)) λr2 s2 IU=>?_
       · obtain⟨ol,hol,Io,nl,Jh⟩:=hl;obtain⟨ocls,odict,odata,d⟩:=ol;dsimp only at Io Jh;subst Io Jh;have hol1:(s.heap.push (jZ w)).get? l=some {cls:=.type "list",dict:=odict,data:=.seq its nl,slots:=d}:=hpS _ hol;have hsls:=PySem.F.sub_list_set;have hslf:=PySem.F.sub_list_frozenset;have Il:(Value.type "list"==Value.type "dict")=false:=by decide
         have Jq:(s.heap.push (jZ w)).IsList l its:=⟨_,hol1,U,nl,U⟩;unfold Builtin.«set.__init__» noKeywords Builtin.Frozenset.updateFrom;generalize hPI:pyIter=PI
         wp_walk
         subst hPI;refine wpAny_pyIter_list Jq (wB (wpAny_runValue ?_));have lS:l<s.heap.objs.size:=Heap.lt_size hol;have hh3:A.in1.in1.in1.handled=none:=by simp[hh]
         have nI:l≠(s.heap.push (jZ w)).objs.size:=by rw[Heap.size_push];exact Nat.ne_of_lt (Nat.lt_succ_of_lt lS)
         have nS:s.heap.objs.size∉[(s.heap.push (jZ w)).objs.size,l]:=by
           rw[Heap.size_push];intro z;simp only[List.mem_cons,nMN,or_false] at z
           rcases z with z | z
           · exact Nat.ne_of_lt (Nat.lt_succ_self _) z
           · exact Nat.ne_of_gt lS z
         have hget:((s.heap.push (jZ w)).push {cls:=.type "list_iterator",data:=.fields #[.ref l,.int 0 0]}).get? s.heap.objs.size=some (jZ w):=hpS _ hS;refine vF ((Walks.list hh3 _ l nI its).toS) s.heap.objs.size nS hv hb (its.size-0) 0 _ (jZ w) #[] 0 _ ?A (Nat.zero_le _) ⟨⟨_,Heap.get?_push_size _ U,U,U⟩,Jq.push _⟩
           ⟨hget,⟨U,U,U⟩,U,λe he=>by simp at he,Nat.le_refl _,U,U,.inl U,λe he=>by simp at he,by simp,λx hx=>by simp at hx⟩ λs3 o es ep t hm S3=>?_
         obtain⟨h3,g3,d3,tk3,os3⟩:=s3;obtain rfl:g3=s.gens:=hm.gens;obtain rfl:d3=s.drawn:=hm.drawn;obtain rfl:os3=s.os:=hm.os;show wpAny _ _ _ _ _ _;refine wP (by
           show wpAny _ _ (ret Value.none) _ _ _;refine wP ⟨U,h3,tk3,o,es,ep,t,U,S3,λb q e=>?_⟩;have lb:=Heap.lt_size e;refine hm.heap b q (λz=>?_) (hpS _ (hpS _ e));rw[Heap.size_push] at z;simp only[List.mem_cons,nMN,or_false] at z
           rcases z with z | z
           · exact Nat.ne_of_lt lb z
           · exact Nat.ne_of_lt (Nat.lt_succ_of_lt lb) z)
       · cases r2 with
         | error e=>exact IU
         | ok fl2 =>
           cases fl2 with
           | ret r =>
             obtain⟨rfl,f,tk,o,es,ep,t,rfl,S',k'⟩:=IU
             repeat (any_goals (first | assumption | wp_step))
             exact h _ _ _ _ _ _ S' k'
           | _=>cases IU
     | next=>cases hr
     | brk=>cases hr
     | cont=>cases hr))
end
def bA:Slot "set_iterator" "__next__" "set_iterator.__next__":=Slot.of (owner:="set_iterator") (n:="__next__") (by rw[typeLookup_type,builtinLookup_eq_fast];right) (by left) (by left) (by left) (by first | exact .inl (by left) | exact .inr (by left)) (by rw[isSubtype_type];right)
def iO:Slot "set_iterator" "__iter__" "set_iterator.__iter__":=Slot.of (owner:="set_iterator") (n:="__iter__") (by rw[typeLookup_type,builtinLookup_eq_fast];right) (by left) (by left) (by left) (by first | exact .inl (by left) | exact .inr (by left)) (by rw[isSubtype_type];right)
def eJ:entryFor table "set_iterator.__next__"=some Builtin.«set_iterator.__next__»:=entryFor_of_fast (by right)
def lT:entryFor table "set_iterator.__iter__"=some Builtin.«dict_keyiterator.__iter__»:=entryFor_alias (id':="dict_keyiterator.__iter__") (by right) rfl (by left) (by right)
def fc (a:Value):argsOk "set_iterator.__next__" ⟨[a],[]⟩:=by unfold argsOk;right
def ox (a:Value):argsOk "set_iterator.__iter__" ⟨[a],[]⟩:=by unfold argsOk;right
def ii:entryFor table "set.__iter__"=some Builtin.«frozenset.__iter__»:=entryFor_alias (id':="frozenset.__iter__") (by right) rfl (by left) (by right)
def o7 {α:Type}:∀ (l:List α) (i:Nat) (h:i<l.length),(l[i]::l.eraseIdx i).Perm l
 | [],i,h=>by cases h
 | x::r,0,_=>List.Perm.refl _
 | x::r,i+1,h=>by
  rw[List.eraseIdx_cons_succ,List.getElem_cons_succ];exact (List.Perm.swap _ _ _).trans (List.Perm.cons _ (o7 r i (Nat.lt_of_succ_lt_succ h)))
def rZ {α:Type} (nx:Nat->Nat):∀ (f k:Nat) (l:List α) (o:Array α),f=l.length->(pickOrder.go nx f k l o).toList.Perm (o.toList++l)
 | 0,k,l,o,h=>by
  cases List.eq_nil_of_length_eq_zero h.symm;rw[pickOrder.go,List.append_nil]
 | f+1,k,l,o,h=>by
  have hp:0<l.length:=by omega
  have hi:nx k % l.length<l.length:=Nat.mod_lt _ hp;rw[pickOrder.go,gEE hi];dsimp only;refine (rZ nx f (k+1) (l.eraseIdx (nx k % l.length)) (o.push l[nx k % l.length]) (by rw[List.length_eraseIdx_of_lt hi];omega)).trans ?_;rw[Array.toList_push,List.append_assoc];refine List.Perm.append_left _ ?_;exact o7 _ _ hi
def ju (nx:Nat->Nat) (xs:Array α):(pickOrder nx xs).toList.Perm xs.toList:=rZ nx xs.size 0 xs.toList #[] ?B
section
variable {prog:Program} {w:World} {A:Around} {E:VSP}
def yw (b:n≠0) (h:∀ i d,i<n->Q i {s with drawn:=d}):wpAny ?L A (choose src n) Q E s:=λΓ p c=>by
 show Sem.wp _ _ (Sem.choose src n .pure) _ _ _ _;rw[Sem.wp_choose];exact⟨b,h _ _ (Nat.mod_lt _ (Nat.pos_of_ne_zero b))⟩
def oB {α:Type}:∀ (n:Nat) (xs:List α) (s:Shared) (Q:List α->Shared->Prop),n=xs.length->(∀ ys d,ys.Perm xs->Q ys {s with drawn:=d})->wpAny ?L A (drawOrder n xs) Q E s
 | 0,xs,s,Q,h,k=>by
  cases List.eq_nil_of_length_eq_zero h.symm;exact wP (k [] s.drawn (List.Perm.refl _))
 | n+1,xs,s,Q,h,k=>by
  cases xs with
  | nil=>cases h
  | cons x r =>
   rw[drawOrder];refine wB (yw ?B λi d hi=>?_);rw[gEE hi];dsimp only;refine wB (oB n _ _ _ (by rw[List.length_eraseIdx_of_lt hi];simpa using h) λys d2 hp=>wP (k _ d2 ?_));exact (List.Perm.cons _ hp).trans (o7 _ _ hi)
   · intro z;cases z
end
def im (h:Heap) (I a:Addr) (first:Value) (i n ep:Nat):Prop:=h.get? I=some {cls:=.type "set_iterator",data:=.fields #[first,rawInt (i:Int),.ref a,rawInt (n:Int),rawInt (ep:Int)]}
section
variable {prog:Program} {w:World} {A:Around} {E:VSP} {s:Shared} {I a:Addr} {o:Obj} {G:Array (Int×Value)} {H i:Nat} {t:SetTable}
def oW {b nx:Nat} (d:im s.heap I a (rawInt (b:Int)) i G.size H) (m:s.heap.get? a=some o) (n:o.data=.set G H t) (k:t.fits G.size=true)
 (l:∀ (A:Around) (E:VSP) (Q:Option (Value×Nat)->Shared->Prop),Q (some (v,nx)) s->wpAny ?L A (setNext a b i H) Q E s)
 (h:∀ c,im c I a (rawInt (nx:Int)) (i+1) G.size H->Heap.SameBut I s.heap c->Q (some v) {s with heap:=c}):wpAny ?L A (pyNext (.ref I)) Q E s:=by
 have f:s.TypeIs (.ref I) "set_iterator":=⟨_,d,U⟩;unfold pyNext;refine wB (wpAny_attempt (wpAny_callSpecial?_slot f bA (wpAny_call_entry bA f eJ ?_ (fc _))));unfold Builtin.«set_iterator.__next__»;refine wB (wP ?_);refine wB (wpAny_fieldsOf d U ?_);refine wB (wpAny_setEntries_of m n k ?_);rw[if_neg ?B];simp only[Int.toNat_natCast];refine wB (l _ _ _ ?_);refine wB (wpAny_setField_rec d ?B λz p q=>?_);refine wB (wpAny_setField_rec p ?B λy j r=>?_);refine wP ⟨v,U,wP (h y ?_ (q.trans r))⟩;exact j
def mh {Q:Fin->Shared->Prop} (c:A.handled=none) (d:∀ a e,Heap.ExtBut I s.heap a->(∃ o,a.get? e=some o/\o.cls=.type "StopIteration")->E (.ref e) {s with heap:=a}) :
 wpAny ?L A (do let x <- newExc (.type "StopIteration") [];raiseNew x) Q E s:=by
 refine wB ?_;simp only[newExc,newTuple];refine wB (wpAny_newObj_type ?_ (by size_fits));refine wB (wpAny_of_eq (by first | rfl | (simp only[firstArgMember];rfl)) (wpAny_newObj_type ?_ (by size_fits)));simp only[raiseNew];refine wB (wpAny_handled (by rw[c];exact wB (wP (wpAny_throw (d _ _ ((Heap.ExtBut.refl I s.heap).push _ |>.push _) ⟨_,Heap.get?_push_size _ U,U⟩)))))
def iW {b:Nat} (l:A.handled=none) (c:im s.heap I a (rawInt (b:Int)) i G.size H) (p:s.heap.get? a=some o) (r:o.data=.set G H t) (m:t.fits G.size=true)
 (n:∀ (A:Around) (E:VSP) (Q:Option (Value×Nat)->Shared->Prop),Q none s->wpAny ?L A (setNext a b i H) Q E s)
 (h:∀ f,Heap.ExtBut I s.heap f->Q none {s with heap:=f}):wpAny ?L A (pyNext (.ref I)) Q E s:=by
 have j:s.TypeIs (.ref I) "set_iterator":=⟨_,c,U⟩;ext f;refine wB (wP (wB (wpAny_fieldsOf c U ?_)));refine wB (wpAny_setEntries_of p r m ?_);rw[if_neg ?B];simp only[Int.toNat_natCast];refine wB (n _ _ _ ?_);refine wB (wpAny_setField_rec c ?B λD z u=>?_);refine mh (I:=I) l λF e d v=>?_;obtain⟨q,x,y⟩:=v;exact wB (wpAny_isInstance ⟨q,x,y⟩ isSubtype_stop (wP (h _ (u.extBut.trans d))))
def wH {TP:Addr} {m pl:Nat} (d:im s.heap I a (.ref TP) i G.size H) (g:s.heap.get? a=some o) (l:o.data=.set G H t) (f:t.fits G.size=true)
 (u:s.heap.get? TP=some n) (e:n.data=.seq ps m) (x:ps[i]?=some (rawInt (pl:Int))) (r:G[pl]?=some (k,v))
 (h:∀ c,im c I a (.ref TP) (i+1) G.size H->Heap.SameBut I s.heap c->Q (some v) {s with heap:=c}):wpAny ?L A (pyNext (.ref I)) Q E s:=by
 have j:s.TypeIs (.ref I) "set_iterator":=⟨_,d,U⟩;ext f;refine wB (wP (wB (wpAny_fieldsOf d U ?_)));refine wB (wpAny_setEntries_of g l f ?_);rw[if_neg ?B];simp only[Int.toNat_natCast];refine wB (wpAny_seqItems u e ?_);dsimp only;rw[x];dsimp only[rawInt];simp only[Int.toNat_natCast];unfold setNextDrawn;refine wB (wB (wpAny_setState_of g l f ?_));dsimp only;rw[if_neg ?B,r];refine wP ?_;refine wB (wpAny_setField_rec d ?B λC p q=>wP ⟨v,U,wP (h C p q)⟩)
def nK {TP:Addr} (l:A.handled=none) (b:im s.heap I a (.ref TP) i G.size H) (p:s.heap.get? a=some o) (r:o.data=.set G H t) (n:t.fits G.size=true)
 (x:s.heap.get? TP=some g) (c:g.data=.seq ps m) (z:ps[i]?=none) (h:∀ f,Heap.ExtBut I s.heap f->Q none {s with heap:=f}):wpAny ?L A (pyNext (.ref I)) Q E s:=by
 have j:s.TypeIs (.ref I) "set_iterator":=⟨_,b,U⟩;ext f;refine wB (wP (wB (wpAny_fieldsOf b U ?_)));refine wB (wpAny_setEntries_of p r n ?_);rw[if_neg ?B];simp only[Int.toNat_natCast];refine wB (wpAny_seqItems x c ?_);dsimp only;rw[z];refine wB (wpAny_setField_rec b ?B λK u v=>?_);refine wB (wpAny_setField_rec u ?B λL F D=>?_);refine mh (I:=I) l λM e d y=>?_;obtain⟨q,B,C⟩:=y;exact wB (wpAny_isInstance ⟨q,B,C⟩ isSubtype_stop (wP (h _ ((v.trans D).extBut.trans d))))
end
section
variable {prog:Program} {w:World} {A:Around} {E:VSP} {s:Shared} {I a:Addr} {o:Obj} {k:Array (Int×Value)} {l i:Nat} {t:SetTable}
def gZ (h:Q (w.params.followText "set-order") s):wpAny ?L A setsByText Q E s:=by
 unfold setsByText;exact wB (wpAny_askSetting (wP h))
def rN (g:w.params.followText "set-order"=true) (b:s.heap.get? a=some o) (f:o.data=.set k l t) (c:t.fits k.size=true)
 (h:Q (((pickOrder (w.params.setOrder a l) k)[i]?).map λe=>(e.2,slot)) s):wpAny ?L A (setNext a slot i l) Q E s:=by
 unfold setNext;refine wB (wpAny_setState_of b f c ?_);refine wB (gZ ?_);rw[g];simp only[if_true];rw[if_neg ?B];unfold setWalk;refine wB (wB (wpAny_setState_of b f c ?_));refine wB (gZ ?_);rw[g];simp only[if_true];exact wB (wpAny_askSetting (wP (wP h)))
def vD (g:w.params.followText "set-order"=false) (c:t.led=true) (hz:k.size<=1) (d:s.heap.get? a=some o) (f:o.data=.set k l t) (e:t.fits k.size=true)
 (h:Q (match k[SetTable.below t.place slot]?,t.place[SetTable.below t.place slot]? with | some (_,x),some j=>some (x,j+1) | _,_=>none) s):wpAny ?L A (setNext a slot i l) Q E s:=by
 unfold setNext;refine wB (wpAny_setState_of d f e ?_);refine wB (gZ ?_);rw[g];simp only[Bool.false_eq_true,if_false];show wpAny _ _ (if (!t.plain&&decide (k.size>1))=true then _ else _) _ _ _;rw[if_neg (by grind)];refine wB ?_;show wpAny _ _ (if (!t.led&&!k.isEmpty)=true then _ else _) _ _ _;rw[if_neg (by rw[c];simp)];exact wP (wP h)
end
def A2 {α:Type} {xs:Array α} (h:xs.size=1):∃ y,xs=#[y]:=by
 obtain⟨l⟩:=xs
 match l,h with
 | [y],_=>exact⟨y,U⟩
def zY (j:Nat):SetTable.below #[j] (j+1)=1:=by simp[SetTable.below,SetTable.below.go]
def zZ (j:Nat):SetTable.below #[j] 0=0:=by simp[SetTable.below,SetTable.below.go]
section
variable {prog:Program} {w:World} {A:Around} {E:VSP} {s:Shared} {I a:Addr} {o:Obj} {r:Array (Int×Value)} {u i:Nat} {t:SetTable}
def oC (d:s.heap.get? a=some o) (e:o.data=.set r u t) (c:t.fits r.size=true) (h:Q (!w.params.followText "set-order"&&(!t.plain&&decide (r.size>1))) s):wpAny ?L A (setDrawn a) Q E s:=by
 unfold setDrawn;refine wB (wpAny_setState_of d e c ?_);exact wB (gZ (wP h))
abbrev itO (first:Value) (a:Addr) (n u:Nat):Obj:={cls:=.type "set_iterator",data:=.fields #[first,rawInt 0,.ref a,rawInt (n:Int),rawInt (u:Int)]}
def wS {Q:VSP} (b:s.heap.get? a=some o) (i:o.ExactSet) (e:o.data=.set r u t) (d:t.fits r.size=true) (j:(!w.params.followText "set-order"&&(!t.plain&&decide (r.size>1)))=false)
 (h:Q ?V {s with heap:=s.heap.push (itO (rawInt 0) a r.size u)}):wpAny ?L A (pyIter (.ref a)) Q E s:=by
 have f:s.TypeIs (.ref a) "set":=⟨_,b,i.1⟩;refine wpAny_pyIter_slot f PySem.F.slot_set_iter (wpAny_call_entry PySem.F.slot_set_iter f ii ?_ (PySem.F.args_set_iter_1 _));unfold Builtin.«frozenset.__iter__»;refine wB (wP (wB ?_));unfold Builtin.Frozenset.sizeOf;refine wB (wpAny_setEntries_of b e d (wP ?_));refine wB (oC b e d ?_);rw[j];simp only[Bool.false_eq_true,if_false];refine wB (wP (wB (wpAny_setEpoch_of b e d (wB (wpAny_newObj_type (wP ⟨_,U,"set_iterator",_,⟨_,Heap.get?_push_size _ U,U⟩,bA.lookup,h⟩))))))
abbrev plO (ys:List Nat):Obj:={cls:=.type "tuple",data:=.seq (ys.map λ(i:Nat)=>rawInt (i:Int)).toArray}
def wR {Q:VSP} (f:s.heap.get? a=some o) (n:o.ExactSet) (j:o.data=.set r u t) (g:t.fits r.size=true) (hz:r.size<scanBound) (q:(!w.params.followText "set-order"&&(!t.plain&&decide (r.size>1)))=true)
 (h:∀ l d,l.Perm (List.range r.size)->Q (.ref (s.heap.objs.size+1)) {s with heap:=(s.heap.push (plO l)).push (itO (.ref s.heap.objs.size) a r.size u),drawn:=d}):wpAny ?L A (pyIter (.ref a)) Q E s:=by
 have k:s.TypeIs (.ref a) "set":=⟨_,f,n.1⟩;refine wpAny_pyIter_slot k PySem.F.slot_set_iter (wpAny_call_entry PySem.F.slot_set_iter k ii ?_ (PySem.F.args_set_iter_1 _));unfold Builtin.«frozenset.__iter__»;refine wB (wP (wB ?_));unfold Builtin.Frozenset.sizeOf;refine wB (wpAny_setEntries_of f j g (wP ?_));refine wB (oC f j g ?_);rw[q];simp only[if_true];refine wB (oB r.size _ _ _ ?B λl d m=>?_);have p:(l.map λ(i:Nat)=>rawInt i).length<=sizeLine:=by
  rw[lMp,m.length_eq,List.length_range];exact fits_of_scanBound hz
 refine wB (wpAny_newTuple ?_ p);refine wB (wpAny_setEpoch_of (hpS _ f) j g (wB (wpAny_newObj_type (wP ⟨_,U,"set_iterator",_,⟨_,Heap.get?_push_size _ U,U⟩,bA.lookup,?_⟩))));have e:(s.heap.push (plO l)).objs.size=s.heap.objs.size+1:=Heap.size_push ..;rw[e];exact h l d m
end
def nj {E:VSP} {Q:VSP} (d:im s.heap I a f i n ep) (h:Q (.ref I) s):wpAny ?L A (pyIter (.ref I)) Q E s:=by
 have c:s.TypeIs (.ref I) "set_iterator":=⟨_,d,U⟩;refine wpAny_pyIter_slot c iO (wpAny_call_entry iO c lT ?_ (ox _));exact wP ⟨_,U,"set_iterator",_,c,bA.lookup,h⟩
section
variable {prog:Program} {w:World} {A:Around} {I a:Addr} {o:Obj} {D:Array (Int×Value)} {F:Nat} {t:SetTable}
def nL (c:Heap.SameBut I s.heap h'):Moved [I] (λx y=>y=x) s {s with heap:=h'}:=⟨λb q d e=>(c.2 b λz=>d (by rw[z];exact mCS)).trans e,U,U,U,Nat.le_refl _⟩
def qL (x:Heap.ExtBut I s.heap h'):Moved [I] (λx y=>y=x) s {s with heap:=h'}:=⟨λb q c e=>x b q (λz=>c (by rw[z];exact mCS)) e,U,U,U,Nat.le_refl _⟩
def tP (n:A.handled=none) (L:a≠I) (f:o.data=.set D F t) (d:t.fits D.size=true) (m:w.params.followText "set-order"=true) :
 WalksS prog w A I [I,a] [I] (λx y=>y=x) D.size (λi v=>∃ k,(pickOrder (w.params.setOrder a F) D)[i]?=some (k,v)) (λi s=>s.heap.get? a=some o/\im s.heap I a (rawInt ((0:Nat):Int)) i D.size F) where
 sub:=λb z=>by rw[mSg.mp z];exact mCS
 grefl:=λ_=>rfl
 gtrans:=λ_ _ _ x y=>y.trans x
 frame:=λi s u O c _ k=>⟨k a ?B _ c.1,k I ?B _ c.2⟩
 item:=λi s Q E r c h=>by
  have p:(pickOrder (w.params.setOrder a F) D).size=D.size:=by rw[<- Array.length_toList,(ju _ D).length_eq,Array.length_toList]
  have g:i<(pickOrder (w.params.setOrder a F) D).size:=by omega
  have e:(pickOrder (w.params.setOrder a F) D)[i]?=some (((pickOrder (w.params.setOrder a F) D)[i]).1,((pickOrder (w.params.setOrder a F) D)[i]).2):=by rw[Array.getElem?_eq_getElem g]
  exact oW c.2 c.1 f d (λA E Q q=>rN m c.1 f d (by rw[e];exact q)) λN j l=>h _ _ ⟨_,e⟩ ⟨(l.2 a L).trans c.1,j⟩ (nL l)
 done:=λs Q E c h=>by
  have p:(pickOrder (w.params.setOrder a F) D).size=D.size:=by rw[<- Array.length_toList,(ju _ D).length_eq,Array.length_toList]
  have e:(pickOrder (w.params.setOrder a F) D)[D.size]?=none:=Array.getElem?_eq_none ?A;exact iW n c.2 c.1 f d (λA E Q q=>rN m c.1 f d (by rw[e];exact q)) λN x=>h _ (qL x)
 self:=λi s Q E c h=>nj c.2 h
def vd (r:A.handled=none) (O:a≠I) (g:o.data=.set D F t) (d:t.fits D.size=true) (p:w.params.followText "set-order"=false) (n:t.led=true) (hz:D.size<=1) :
 WalksS prog w A I [I,a] [I] (λx y=>y=x) D.size (λi v=>∃ k,D[i]?=some (k,v)) (λi s=>s.heap.get? a=some o/\im s.heap I a (rawInt ((if i=0 then 0 else t.place.getD 0 0+1:Nat):Int)) i D.size F) where
 sub:=λb z=>by rw[mSg.mp z];exact mCS
 grefl:=λ_=>rfl
 gtrans:=λ_ _ _ x y=>y.trans x
 frame:=λi s C T c _ k=>⟨k a ?B _ c.1,k I ?B _ c.2⟩
 item:=λi s Q E B c h=>by
  have u:i=0:=by omega
  subst u;have f:D.size=1:=by omega
  have J:t.place.size=1:=by
   unfold SetTable.fits at d;rw[Bool.and_eq_true,beq_iff_eq] at d;omega
  obtain⟨D,rfl⟩:=A2 f;obtain⟨j,e⟩:=A2 J;refine oW (nx:=j+1) c.2 c.1 g d (λA E Q q=>vD p n hz c.1 g d ?_) λS l m=>h D.2 _ ⟨D.1,U⟩ ⟨(m.2 a O).trans c.1,?_⟩ (nL m)
  · rw[e];show Q (match #[D][SetTable.below #[j] 0]?,#[j][SetTable.below #[j] 0]? with | some (_,x),some j=>some (x,j+1) | _,_=>none) s;rw[zZ];exact q
  · rw[e];exact l
 done:=λs Q E c h=>by
  refine iW r c.2 c.1 g d (λA E Q q=>vD p n hz c.1 g d ?_) λS x=>h _ (qL x);have J:t.place.size=D.size:=by
   unfold SetTable.fits at d;rw[Bool.and_eq_true,beq_iff_eq] at d;exact d.1
  by_cases z:D.size=0
  · grind
  · have f:D.size=1:=by omega
    obtain⟨D,rfl⟩:=A2 f;obtain⟨j,e⟩:=A2 (J.trans f);rw[e];show Q (match #[D][SetTable.below #[j] (j+1)]?,#[j][SetTable.below #[j] (j+1)]? with | some (_,x),some j=>some (x,j+1) | _,_=>none) s;rw[zY];exact q
 self:=λi s Q E c h=>nj c.2 h
def qo {TP:Addr} {ys:List Nat} (n:A.handled=none) (M:a≠I) (r:TP≠I) (m:o.data=.set D F t) (j:t.fits D.size=true) (g:ys.Perm (List.range D.size)) :
 WalksS prog w A I [I,a,TP] [I] (λx y=>y=x) D.size (λi v=>∃ p k,ys[i]?=some p/\D[p]?=some (k,v)) (λi s=>s.heap.get? a=some o/\s.heap.get? TP=some (plO ys)/\im s.heap I a (.ref TP) i D.size F) where
 sub:=λb z=>by rw[mSg.mp z];exact mCS
 grefl:=λ_=>rfl
 gtrans:=λ_ _ _ x y=>y.trans x
 frame:=λi s C R b _ k=>⟨k a ?B _ b.1,k TP ?B _ b.2.1,k I ?B _ b.2.2⟩
 item:=λi s Q E B b h=>by
  have q:ys.length=D.size:=by rw[g.length_eq,List.length_range]
  have d:i<ys.length:=by omega
  have u:=List.mem_range.mp (g.mem_iff.mp (List.getElem_mem d));have l:D[ys[i]]?=some ((D[ys[i]]).1,(D[ys[i]]).2):=by rw[Array.getElem?_eq_getElem u]
  refine wH b.2.2 b.1 m j b.2.1 U ?_ l λP f e=>h _ _ ⟨ys[i],_,gEE d,l⟩ ⟨(e.2 a M).trans b.1,(e.2 TP r).trans b.2.1,f⟩ (nL e);rw[List.getElem?_toArray,gEM,gEE d];rfl
 done:=λs Q E b h=>by
  have q:ys.length=D.size:=by rw[g.length_eq,List.length_range]
  refine nK n b.2.2 b.1 m j b.2.1 U ?_ λP x=>h _ (qL x);rw[List.getElem?_toArray,gEM,List.getElem?_eq_none ?A];rfl
 self:=λi s Q E b h=>nj b.2.2 h
end
def ln (h:ItemsOf P acc l.length) (k:∀ j v,P j v->l[j]?=some v):acc.toList=l:=by
 refine List.ext_getElem (by rw[Array.length_toList,h.1]) λj b a=>?_;have e:=k j _ (h.2 j _ (Array.getElem?_eq_getElem (by simpa using b)));rw[gEE a] at e;rw[Array.getElem_toList];exact (Option.some.inj e).symm
section
variable {prog:Program} {w:World} {A:Around} {E:VSP} {s:Shared} {a:Addr} {ss:List Str} {n:Nat} {o:Obj} {f:Array (Int×Value)} {ep:Nat} {t:SetTable}
def wT (S:gz prog w s.heap a ss n o f ep t) (N:n<scanBound) {Q:VSP}
 (h:∀ (I:Addr) (D:List Addr) (P:Nat->Value->Prop) (St:Nat->Shared->Prop) (h':Heap) (d:Drawn),(∀ K:Around,K.handled=none->WalksS prog w K I D [I] (λx y=>y=x) f.size P St)->St 0 {s with heap:=h',drawn:=d}->(∀ b∈D,b<h'.objs.size)->I∈D->s.heap.objs.size<=I->(∀ b∈D,b=a\/s.heap.objs.size<=b) ->
   (∀ b q,s.heap.get? b=some q->h'.get? b=some q)->(∀ l,ItemsOf P l f.size->l.toList.Perm (f.toList.map (·.2)))->Q (.ref I) {s with heap:=h',drawn:=d}):wpAny ?L A (pyIter (.ref a)) Q E s:=by
 have G:=Heap.lt_size S.at_;have Z:=Nat.lt_of_le_of_lt S.sz N;cases C:(!w.params.followText "set-order"&&(!t.plain&&decide (f.size>1))) with
 | true =>
  refine wR S.at_ S.ex S.dt S.ft Z C λys d H=>?_;have T:(s.heap.push (plO ys)).objs.size=s.heap.objs.size+1:=Heap.size_push ..;have i:((s.heap.push (plO ys)).push (itO ?V a f.size ep)).get? (s.heap.objs.size+1)=some (itO ?V a f.size ep):=by rw[<- T];exact Heap.get?_push_size _ U
  have u:((s.heap.push (plO ys)).push (itO ?V a f.size ep)).get? s.heap.objs.size=some (plO ys):=hpS _ (Heap.get?_push_size _ U);have up:∀ b q,s.heap.get? b=some q->((s.heap.push (plO ys)).push (itO ?V a f.size ep)).get? b=some q:=λb q e=>hpS _ (hpS _ e);refine h (s.heap.objs.size+1) _ _ _ _ d (λA' r=>qo r (Nat.ne_of_lt (Nat.lt_succ_of_lt G)) (Nat.ne_of_lt (Nat.lt_succ_self _)) S.dt S.ft H) ⟨up _ _ S.at_,u,i⟩ (λb c=>?_) ?B (Nat.le_succ _) (λb c=>?_) up λl m=>?_
  · simp only[List.mem_cons,nMN,or_false] at c
    rcases c with rfl | rfl | rfl
    · exact Heap.lt_size i
    · exact Heap.lt_size (up _ _ S.at_)
    · exact Heap.lt_size u
  · grind
  · have W:ys.length=f.size:=by rw[H.length_eq,List.length_range]
    let g:Nat->Value:=λp=>((f[p]?).map (·.2)).getD .none
    have e:l.toList=ys.map g:=ln (by rw[lMp,W];exact m) λj v z=>by
     obtain⟨p,k,R,Y⟩:=z;rw[gEM,R];show some (((f[p]?).map (·.2)).getD .none)=some v;rw[Y];rfl
    rw[e];refine (H.map g).trans ?_;have M:(List.range f.size).map g=f.toList.map (·.2):=by
     refine List.ext_getElem ?B λj h1 O=>?_;rw[List.getElem_map,List.getElem_range,List.getElem_map,Array.getElem_toList];show ((f[j]?).map (·.2)).getD .none=_;rw[Array.getElem?_eq_getElem (by simpa using O)];rfl
    rw[M]
 | false =>
  refine wS S.at_ S.ex S.dt S.ft C ?_;have i:(s.heap.push (itO (rawInt 0) a f.size ep)).get? s.heap.objs.size=some (itO (rawInt 0) a f.size ep):=Heap.get?_push_size _ rfl;have up:∀ b q,s.heap.get? b=some q->(s.heap.push (itO (rawInt 0) a f.size ep)).get? b=some q:=λb q e=>hpS _ e;have lt:∀ b∈[s.heap.objs.size,a],b<(s.heap.push (itO (rawInt 0) a f.size ep)).objs.size:=λb c=>by
   simp only[List.mem_cons,nMN,or_false] at c
   rcases c with rfl | rfl
   · exact Heap.lt_size i
   · exact Heap.lt_size (up _ _ S.at_)
  have J:∀ b∈[s.heap.objs.size,a],b=a\/s.heap.objs.size<=b:=λb c=>by
   simp only[List.mem_cons,nMN,or_false] at c
   rcases c with rfl | rfl
   · exact .inr ?M
   · exact .inl U
  cases c:w.params.followText "set-order" with
  | true =>
   refine h s.heap.objs.size [s.heap.objs.size,a] _ _ _ s.drawn (λA' r=>tP r (Nat.ne_of_lt G) S.dt S.ft c) ⟨up _ _ S.at_,i⟩ lt ?B ?M J up λl m=>?_;have L:=ju (w.params.setOrder a ep) f;have e:l.toList=(pickOrder (w.params.setOrder a ep) f).toList.map (·.2):=ln (by rw[lMp,L.length_eq,Array.length_toList];exact m) λj v z=>by
    obtain⟨k,z⟩:=z;rw[gEM,Array.getElem?_toList,z];rfl
   rw[e];exact L.map _
  | false =>
   have F:f.size<=1:=by
    rcases S.pl with z | z
    · omega
    · rw[c,z] at C;simp at C;omega
   refine h s.heap.objs.size [s.heap.objs.size,a] _ _ _ s.drawn (λA' r=>vd r (Nat.ne_of_lt G) S.dt S.ft c (by rw[S.ld,c];rfl) F) ⟨up _ _ S.at_,i⟩ lt ?B ?M J up λl m=>?_;have e:l.toList=f.toList.map (·.2):=ln (by rw[lMp,Array.length_toList];exact m) λj v z=>by
    obtain⟨k,z⟩:=z;rw[gEM,Array.getElem?_toList,z];rfl
   rw[e]
def pZ (J:A.handled=none) (S:gz prog w s.heap a ss n o f ep t) (T:n<scanBound) 
 (h:∀ (O:List Value) h' d tk,O.Perm (f.toList.map (·.2))->(∀ b q,s.heap.get? b=some q->h'.get? b=some q)->Q O {s with heap:=h',drawn:=d,toks:=tk}):wpAny ?L A (collect (.ref a)) Q E s:=by
 have L:=Heap.lt_size S.at_;unfold collect;refine wB (wpAny_runValue (codeAny_builtin PySem.F.entry_proto_collect (by
   rw[Around.under_plainId PySem.F.plain_proto_collect _];refine wB (wpAny_newObj_type (wP ⟨plainId_quiet PySem.F.plain_list_iadd _,codeAny_builtin PySem.F.entry_list_iadd ?_⟩));rw[Around.under_plainId PySem.F.plain_list_iadd _];have k:gz prog w (s.heap.push {cls:=.type "list",data:=.seq ([]:List Value).toArray}) a ss n o f ep t:=S.of_same (hpS _ S.at_);have ty:Shared.TypeIs {s with heap:=s.heap.push {cls:=.type "list",data:=.seq ([]:List Value).toArray}} (.ref a) "set":=⟨_,k.at_,k.ex.1⟩;have h1:Builtin.List.listSameRef ?V (.ref a)=false:=by simp[Builtin.List.listSameRef];exact Nat.ne_of_gt L
   show wpAny _ A.in1 (Builtin.List.listExtendWith ?V (.ref a) ?V) _ _ _;unfold Builtin.List.listExtendWith;refine wB (wpAny_typeOf ty ?_);rw[if_neg (by rw[h1];decide)];refine wB (wT k T λI fp P St u d W st lt mI Y Z up pm=>?_);have j:Shared.TypeIs {s with heap:=u,drawn:=d} (.ref a) "set":=⟨_,up _ _ k.at_,k.ex.1⟩;refine wB (wpAny_holding ?_);unfold Builtin.List.listLengthHint;refine wB (wpAny_specialOf j PySem.F.slot_set_len.lookup ?_);dsimp only;rw[show splitId "set.__len__"=some ("set","__len__") by left];refine wB (wpAny_isInstance j sub_set_self ?_);simp only[Bool.not_true,Bool.false_eq_true,if_false];rw[if_pos]
   rotate_left
   · left
   refine wB (wpAny_typeOf j ?_);refine wP ?_;rw[if_pos]
   rotate_left
   · left
   have R:=up _ _ (Heap.get?_push_size _ U);have K:s.heap.objs.size∉fp:=λz=>by
     rcases Z _ z with q | q
     · exact Nat.ne_of_gt L q
     · exact absurd (show (s.heap.push _).objs.size<=_ from q) (by rw[Heap.size_push];exact Nat.not_succ_le_self _)
   refine wB (wpAny_rule (wB ?_));unfold Builtin.List.listTouch;refine wB (wpAny_updateSeq R U ?_);have p:=Heap.get?_update_self (Obj.mapSeq λx=>x.push Value.none) R U;refine wpAny_updateSeq p U ?_;have D:=Heap.get?_update_self (Obj.mapSeq λx=>x.pop) p U;have M:∀ b q,b≠s.heap.objs.size->u.get? b=some q->((u.update s.heap.objs.size (Obj.mapSeq λx=>x.push Value.none)).update s.heap.objs.size (Obj.mapSeq λx=>x.pop)).get? b=some q:=λb q I e=>(Heap.get?_update_other _ _ (Ne.symm I)).trans ((Heap.get?_update_other _ _ (Ne.symm I)).trans e);have W1:=W A.in1.in1 J;have C:=W1.frame 0 _ ((u.update s.heap.objs.size (Obj.mapSeq λx=>x.push Value.none)).update s.heap.objs.size (Obj.mapSeq λx=>x.pop)) s.toks st ?M λb hb q e=>M b q (λz=>K (by rw[<- z];exact hb)) e;refine wP ⟨plainId_quiet PySem.F.plain_extend_loop _,codeAny_extend_loopS (W A.in1 J) (fits_of_scanBound (Nat.lt_of_le_of_lt S.sz T)) _ K _ f.size 0 _ _ _ U (Nat.zero_le _) C D (ItemsOf.nil P) λs3 G c3 v y m=>?_⟩;refine wB (wpAny_load y ?_);obtain⟨h3,g3,N,B,H⟩:=s3;obtain rfl:g3=s.gens:=v.gens;obtain rfl:N=d:=v.drawn;obtain rfl:H=s.os:=v.os;refine wP (h _ h3 N B (pm G m) λb q e=>?_);have r:=Heap.lt_size e;refine v.heap b q (λz=>?_) (M b q (Nat.ne_of_lt r) (up _ _ (hpS _ e)));simp only[List.mem_cons,nMN,or_false] at z
   rcases z with z | z
   · exact Nat.ne_of_lt r z
   · have l:=Y;rw[Heap.size_push] at l;rw[z] at r;exact absurd (Nat.lt_of_lt_of_le r (Nat.le_trans (Nat.le_succ _) l)) (Nat.lt_irrefl _))))
end
def rL:∀ (vs:List Value),(∀ v∈vs,∃ x u,v=Value.str x u)->StrsAre vs (vs.map jX)
 | [],_=>.nil
 | v::r,h=>by
  obtain⟨x,u,rfl⟩:=h v mCS;exact .cons x u (rL r λy hy=>h y (mCM _ hy))
def jm:∀ {vs:List Value} {xs:List Str},StrsAre vs xs->b7 (xs.map V.str) vs
 | _,_,.nil=>.nil
 | _,_,.cons y t r=>.cons ⟨t,U⟩ (jm r)
def Inv.drew {X:Cx} {pins:AOs} {σ:St} {H:Hp} {s:Shared} {d:Drawn} (I:Inv X pins σ H s):Inv X pins σ H {s with drawn:=d}:=⟨I.ok,I.os,I.bare,I.base,I.loc,I.cell,I.free,I.freeC,I.pin,I.hok,I.len⟩
section
variable {prog:Program} {w:World} {A:Around} {E:VSP} {s:Shared} {a:Addr} {ss:List Str} {n:Nat} {o:Obj} {es:Array (Int×Value)} {ep:Nat} {t:SetTable}
def qx (H:A.handled=none) (S:gz prog w s.heap a ss n o es ep t) (p:n<64) {Q:VSP}
 (h:∀ (i:Shared) (h':Heap) (c:List Value) (xs:List Str) (e:Nat),(∃ g d R,i={s with heap:=g,drawn:=d,toks:=R}/\∀ b q,s.heap.get? b=some q->g.get? b=some q)->(∀ b q,i.heap.get? b=some q->h'.get? b=some q) ->
   h'.get? i.heap.objs.size=some (seqObj "list" c.toArray e)->StrsAre c xs->xs.Nodup->sortedS xs=true->(∀ x∈xs,x∈ss)->(∀ x∈ss.take n,x∈xs)->xs.length<=n->Q (.ref i.heap.objs.size) {i with heap:=h'}) :
 wpAny ?L A (call (.builtin "sorted") [.ref a]) Q E s:=by
 refine Calls.call_function_entry kind_sorted plain_sorted entry_sorted (args_sorted1 _) (by
   unfold Builtin.«sorted»;refine wB (wP (wB (pZ H S (Nat.lt_trans p ?G) λc g d R k M=>?_)));have y:c.length<=n:=by rw[k.length_eq,lMp,Array.length_toList];exact S.sz
   have l:∀ v∈c,∃ x u,v=Value.str x u/\x∈ss:=λv l=>by
     obtain⟨e,j,rfl⟩:=List.mem_map.mp (k.mem_iff.mp l);exact S.st e j
   have B:=rL c λv z=>by
     obtain⟨x,u,e,_⟩:=l v z;exact⟨x,u,e⟩
   have Y:(c.map jX).Nodup:=by
     rw[(k.map jX).nodup_iff,List.map_map];exact S.nd
   have Z:c.length<=sizeLine:=Nat.le_trans y (Nat.le_trans (Nat.le_of_lt p) ?G);refine wB (wpAny_newList ?_ Z);have C:(g.push (seqObj "list" c.toArray 0)).get? g.objs.size=some (seqObj "list" c.toArray 0):=Heap.get?_push_size _ U;refine wB (wpAny_holding (wpAny_call_entry slot_list_sort ⟨_,C,U⟩ entry_list_sort (list_sort_treeK strKind_oneLt C B.keysOf (λv1 v2 bT e=>keyKind_strs (by rw[<- e];exact B)) (Nat.lt_of_le_of_lt y p) λst L G=>⟨_,U,?_⟩) (args_list_sort _)));obtain⟨xs,I,m,F⟩:=sorted_out_str B L G;obtain⟨e,j⟩:=sortedHeap_at C;refine wP ⟨_,U,?_⟩;refine h {s with heap:=g,drawn:=d,toks:=R} _ ((arrOf st).map (·.2)).toList xs e ⟨g,d,R,U,M⟩ (λb q z=>?_) (by rw[Array.toArray_toList];exact j) I (m.nodup_iff.mpr Y) F (λx r=>?_) (λx r=>?_) (by rw[m.length_eq,lMp];exact y)
   · have D:=Heap.lt_size z;rw[sortedHeap_old (Nat.ne_of_lt D) (by rw[Heap.size_push];exact Nat.lt_succ_of_lt D)];exact hpS _ z
   · obtain⟨v,J,rfl⟩:=List.mem_map.mp (m.mem_iff.mp r);obtain⟨x,u,rfl,K⟩:=l v J;exact K
   · obtain⟨e,j,q⟩:=S.al x r;refine m.mem_iff.mpr (List.mem_map.mpr ⟨e.2,k.mem_iff.mpr (List.mem_map.mpr ⟨e,j,U⟩),q⟩))
end
def oq:bootBuiltins "sorted"=some (.builtin "sorted"):=by left
def uR:bootBuiltins "set"=some (.type "set"):=by left
def Gu (K:Fg):List V->Hp->VK->Prop:=λxs H Q=>∃ (p:Addr) (ss:List Str),xs=[.ref p]/\SqL K H p (ss.map V.str)/\ss.length<60/\∀ (l:Addr) (ys:List Str),H l=none->ys.Nodup->sortedS ys=true->(∀ x,x∈ys↔x∈ss)->Q (.ref l) (upd H l (.lst (ys.map V.str)))
def FG {p1 l m c:Pos} (hm:X.mg "sorted"=none) (Jy:X.mg "set"=none) (he:PE X e te) (hc:X.calm=true:=by rfl) (hg:Gl X "sorted":=by rfl) (F:Gl X "set":=by rfl)
 (g:starEach [.Call (.Name "set" l) [e] [] c] X.env=(false,eval (.Call (.Name "set" l) [e] [] c) X.env)::starEach [] X.env:=by rfl) (N:starEach [e] X.env=?U::starEach [] X.env:=by rfl)
 (s3:(backTo m (starEach [] X.env)).any (·.1)=false:=by rfl) (W:(backTo c (starEach [] X.env)).any (·.1)=false:=by rfl) (s5:backTo m (starEach [] X.env)=[]:=by rfl) (s6:backTo c (starEach [] X.env)=[]:=by rfl):
 PE X (.Call (.Name "sorted" p1) [.Call (.Name "set" l) [e] [] c] [] m) (tCB (Gu X.K) (gE te lJ)):=by
 intro a s σ H Q I h;have M:=I.ok.hd hc;refine wpAny_Call_Name_kw (e8 I hg hm oq (PyProof.Rows.callWith_builtin1 ?_ g s3));rw[g];show wpAny _ _ (spliced ((false,eval (.Call (.Name "set" l) [e] [] c) X.env)::backTo m (starEach [] X.env))) _ _ s;rw[s5];refine Calls.spliced_cons (wpAny_Call_Name_kw (e8 I F Jy uR (PyProof.Rows.callWith_type1 ?_ N W)));rw[N];show wpAny _ _ (spliced (?U::backTo c (starEach [] X.env))) _ _ s;rw[s6];refine Calls.spliced_cons (thn (he a s σ H _ I h) λu g z=>Calls.spliced_nil ?_);obtain⟨x,H1,L,rx,p,k,ex,hq,hl,q⟩:=z;cases ex;cases rx;obtain⟨B,T,Z,hz⟩:=L.list hq;have f:=T.length;rw[lMp] at f;refine vI (ss:=k) M Z.isList (λi v hv=>?_) (by rw[List.size_toArray];have:scanBound=4096:=rfl;omega) λh2 tk o es ep t S k2=>Calls.spliced_nil ?_
 · have O:B[i]?=some v:=by simpa using hv
   have G:i<k.length:=by have:=(gES.mp O).1;omega
   obtain⟨u,R,ru⟩:=T.get (by rw[gEM,gEE G];rfl);rw[O] at R;cases R;obtain⟨t,rfl⟩:=ru;exact⟨k[i],t,U,gEE G⟩
 · refine qx (s:={g with heap:=h2,toks:=tk}) M S (by grind) λs3 h3 vs r en w k3 n hS nd A D Y C=>?_;obtain⟨J,d,E,rfl,k4⟩:=w;have P:Inv X a σ H1 {g with heap:=J,drawn:=d,toks:=E}:=(L.kept (t':=E) λb o z=>k4 _ _ (k2 _ _ z)).drew;have ll:(r.map V.str).length<=sizeLine:=by
    rw[lMp];rw[List.size_toArray] at C;have:(60:Nat)<=sizeLine:=by decide
    omega
   refine⟨.ref J.objs.size,_,P.turnedNew (t':=E) (ch:=[]) (o:=.lst (r.map V.str)) (λb z=>by cases z) (λb z _ y=>k3 b z y) ⟨ll,vs,en,jm hS,n⟩,U,q _ r ?_ nd A (λx=>⟨D x,λhx=>Y x (by grind)⟩)⟩;exact P.fresh
end L2
namespace L2
open PySem PySem.Spec PyProof.Rows PySem.W
def fG {α:Type} (P:Nat->Nat->Prop) (R:α->Prop):KasT α->Prop
  | .ret a=>R a
  | .ask i j k=>P i j/\∀ b,fG P R (k b)
def fG.bind {f:α->KasT β} (d:∀ a,R a->fG P R' (f a)):∀ (t:KasT α),fG P R t->fG P R' (t.bind f):=by
 intro t
 induction t with
 | ret a=>exact λh=>d a h
 | ask i j k c=>exact λh=>⟨h.1,λb=>c b (h.2 b)⟩
def cW (n:Nat) (p:Array Nat):Prop:=0<n/\∀ x∈p,x<n
def cW.get {n:Nat} {p:Array Nat} (h:cW n p) (i:Nat):p.getD i 0<n:=by
 by_cases a:i<p.size
 · have:p.getD i 0=p[i]:=by simp[Array.getD,a]
   rw[this];exact h.2 _ (Array.getElem_mem a)
 · have:p.getD i 0=0:=by simp[Array.getD,a]
   rw[this];exact h.1
def cW.perm (h:cW n p) (e:q.Perm p):cW n q:=⟨h.1,λx a=>h.2 x (e.mem_iff.mp a)⟩
def cW.rev (h:cW n p) (i j:Nat):cW n (kas_rev p i j):=h.perm (mirror_perm _ _ _ _)
abbrev PB (n:Nat):Nat->Nat->Prop:=λi j=>i<n/\j<n
def tG (h:cW n p):∀ (f m:Nat),fG (PB n) (λ_=>True) (kas_asc p f m):=by
 intro f
 induction f with
 | zero=>exact λm=>trivial
 | succ f a =>
  intro m;refine⟨⟨h.get _,h.get _⟩,λb=>?_⟩;cases b with
  | true=>exact trivial
  | false=>exact a _
def xW:∀ (f:Nat) (p:Array Nat) (m q:Nat),cW n p->fG (PB n) (λr=>cW n r.1) (kas_desc f p m q):=by
 intro f
 induction f with
 | zero=>exact λp m q h=>h
 | succ f a =>
  intro p m q h;refine⟨⟨h.get _,h.get _⟩,λb=>?_⟩;cases b with
  | true =>
   split
   · exact a _ _ _ (h.rev _ _)
   · exact a _ _ _ h
  | false =>
   refine⟨⟨h.get _,h.get _⟩,λd=>?_⟩;cases d with
   | true=>exact h
   | false=>exact a _ _ _ h
def mR (m a:Nat) (h:cW n p):fG (PB n) (λr=>cW n r.2) (kas_tail3 m a p):=by
 refine fG.bind (λa _=>?_) _ (tG (h.rev 0 m) (a-m) m);exact h.rev 0 m
def jb (m a:Nat) (h:cW n p):fG (PB n) (λr=>cW n r.2) (kas_descPart m a p):=by
 refine fG.bind (λr b=>?_) _ (xW _ _ _ _ h);split
 · exact mR _ _ (b.rev _ _)
 · exact mR _ _ b
def uU (a:Nat) (h:cW n p):fG (PB n) (λr=>cW n r.2) (kas_count a p):=by
 refine fG.bind (λm _=>?_) _ (tG h _ _);split
 · exact h
 · split
   · refine⟨⟨h.get _,h.get _⟩,λb=>?_⟩;cases b with
     | true=>exact h
     | false=>exact jb _ _ (h.rev _ _)
   · exact jb _ _ h
def uT (h:cW n p) (k:Nat):∀ (f l r:Nat),fG (PB n) (λ_=>True) (kas_place p k f l r):=by
 intro f
 induction f with
 | zero=>exact λl r=>trivial
 | succ f a =>
  intro l r;show fG _ _ (if l>=r then .ret l else .ask (p.getD k 0) (p.getD ((l+r) / 2) 0) λc=>if c=true then kas_place p k f l ((l+r) / 2) else kas_place p k f ((l+r) / 2+1) r);split
  · exact trivial
  · refine⟨⟨h.get _,h.get _⟩,λb=>?_⟩;cases b with
    | _=>exact a _ _
def A5:∀ (f:Nat) (p:Array Nat) (k:Nat),cW n p->fG (PB n) (cW n) (kas_bin f p k):=by
 intro f
 induction f with
 | zero=>exact λp k h=>h
 | succ f a=>exact λp k h=>fG.bind (λl _=>a _ _ (h.perm (bubble_perm _ _ _))) _ (uT h _ _ _ _)
def xV (f:0<n):fG (PB n) (cW n) (kas_sort n):=by
 have h:cW n (List.toArray (List.range n)):=⟨f,λx d=>by simpa using d⟩;refine fG.bind (λr c=>?_) _ (uU _ h);split
 · exact A5 _ _ _ c
 · exact c
def Cw (h:Heap) (v:Value):Prop:=∃ a o x t i u n,v=.ref a/\h.get? a=some o/\o.cls=.type "tuple"/\o.data=.seq #[.str x t,.int i u] n
def gx:bootBuiltins "sorted"=some (.builtin "sorted"):=by left
def uw (h:IntsAre vs xs):b7 (xs.map V.int) vs:=by
 induction xs generalizing vs with
 | nil=>cases h;exact .nil
 | cons x r a =>
  cases h with
  | cons _ t q=>exact .cons ⟨t,U⟩ (a q)
inductive AD (K:Fg) (xs:List V) (H:Hp) (Q:VK):Prop
  | mk (p:Addr) (ns:List Int) (h1:xs=[.ref p]) (h2:SqL K H p (ns.map V.int)) (h3:ns.length<64) (q:∀ (l:Addr) (ys:List Int),H l=none->ys.Perm ns->ys.Pairwise (·<=·)->Q (.ref l) (upd H l (.lst (ys.map V.int)))):AD K xs H Q
def Ar (K:Fg):List V->Hp->VK->Prop:=λxs H Q=>AD K xs H Q
def og:fZ X (.builtin "sorted") (Ar X.K):=by
 intro m s N H G F Q I E h;obtain⟨p,J,rfl,A,L,q⟩:=h;obtain⟨u,rfl,B⟩:=iN E;cases B;obtain⟨a,c,t,M⟩:=I.list A;have d:=c.length;rw[lMp] at d;refine sorted_ints t.isList (qW c) ?A λj k C l x=>?_;have D:∀ b o,s.heap.get? b=some o->(?Ab).get? b=some o:=λb o g=>by
  ext m
 have i:(?Ab).objs.size=s.heap.objs.size+1:=by
  rw[Heap.size_update,size_push']
 have f:=I.kept (t':=s.toks) D;have n:((?Ab).push (seqObj "list" a.toArray 0)).get? (?Ab).objs.size=some (seqObj "list" a.toArray 0):=Heap.get?_push_size _ rfl;have w:(k.map V.int).length<=sizeLine:=by
  rw[lMp,l.length_eq];have:64<=sizeLine:=by decide
  omega
 unfold sortedAll;rw[<- i];generalize (s.heap.push (seqObj "list" #[] 0)).update s.heap.objs.size (Obj.mapSeq (·++a.toArray))=v at f n ⊢;obtain⟨e,y⟩:=sortedHeap_at n;refine⟨.ref v.objs.size,_,f.turnedNew (ch:=[]) (o:=.lst (k.map V.int)) (λb z=>by cases z) (λb o z g=>?_) ⟨w,j.toList,e,uw C,by rw[Array.toArray_toList];exact y⟩,U,q _ k f.fresh l x⟩;have r:=Heap.lt_size g;rw[sortedHeap_old (Nat.ne_of_lt r) (by rw[Heap.size_push];exact Nat.lt_succ_of_lt r)];exact hpS _ g
def mU {p a:Pos} (c:X.mg "sorted"=none) (b:PA X (e::es) t) (d:Gl X "sorted":=by rfl)
 (he:starEach (e::es) X.env=?U::starEach es X.env:=by rfl) (hpl:(backTo a (starEach es X.env)).any (·.1)=false:=by rfl):
 PE X (.Call (.Name "sorted" p) (e::es) [] a) (tCB (Ar X.K) t):=fw og d c gx b (he:=he) (hpl:=hpl)
def vz:∀ {ss:List Str} {its:List Value},b7 (ss.map V.str) its->StrsAre its ss:=by
 intro ss
 induction ss with
 | nil=>intro its h;cases h;exact .nil
 | cons x r c =>
  intro its h;cases h with
  | cons a b=>obtain⟨t,rfl⟩:=a;exact .cons x t (c b)
inductive AC (K:Fg) (xs:List V) (H:Hp) (Q:VK):Prop
  | mk (p:Addr) (ss:List Str) (h1:xs=[.ref p]) (h2:SqL K H p (ss.map V.str)) (h3:ss.length<64) (q:∀ (l:Addr) (ys:List Str),H l=none->ys.Perm ss->sortedS ys=true->Q (.ref l) (upd H l (.lst (ys.map V.str)))):AC K xs H Q
def Aq (K:Fg):List V->Hp->VK->Prop:=λxs H Q=>AC K xs H Q
def o9:fZ X (.builtin "sorted") (Aq X.K):=by
 intro m s N H G F Q I E h;obtain⟨p,J,rfl,A,L,q⟩:=h;obtain⟨u,rfl,B⟩:=iN E;cases B;obtain⟨a,c,t,M⟩:=I.list A;have d:=c.length;rw[lMp] at d;refine sorted_strs t.isList (vz c) ?A λj k C l x=>?_;have D:∀ b o,s.heap.get? b=some o->(?Ab).get? b=some o:=λb o g=>by
  ext m
 have i:(?Ab).objs.size=s.heap.objs.size+1:=by
  rw[Heap.size_update,size_push']
 have f:=I.kept (t':=s.toks) D;have n:((?Ab).push (seqObj "list" a.toArray 0)).get? (?Ab).objs.size=some (seqObj "list" a.toArray 0):=Heap.get?_push_size _ rfl;have w:(k.map V.str).length<=sizeLine:=by
  rw[lMp,l.length_eq];have:64<=sizeLine:=by decide
  omega
 unfold sortedAll;rw[<- i];generalize (s.heap.push (seqObj "list" #[] 0)).update s.heap.objs.size (Obj.mapSeq (·++a.toArray))=v at f n ⊢;obtain⟨e,y⟩:=sortedHeap_at n;refine⟨.ref v.objs.size,_,f.turnedNew (ch:=[]) (o:=.lst (k.map V.str)) (λb z=>by cases z) (λb o z g=>?_) ⟨w,j.toList,e,jm C,by rw[Array.toArray_toList];exact y⟩,U,q _ k f.fresh l x⟩;have r:=Heap.lt_size g;rw[sortedHeap_old (Nat.ne_of_lt r) (by rw[Heap.size_push];exact Nat.lt_succ_of_lt r)];exact hpS _ g
def uY {p a:Pos} (b:X.mg "sorted"=none) (d:PA X (e::es) t) (c:Gl X "sorted":=by rfl)
 (he:starEach (e::es) X.env=?U::starEach es X.env:=by rfl) (hpl:(backTo a (starEach es X.env)).any (·.1)=false:=by rfl):
 PE X (.Call (.Name "sorted" p) (e::es) [] a) (tCB (Aq X.K) t):=fw o9 c b gx d (he:=he) (hpl:=hpl)
def CC {α:Type} (o:Nat->Nat->Bool):KasT α->α
  | .ret a=>a
  | .ask i j k=>CC o (k (o i j))
def fG.run (c:∀ i j C,P i j->C (o i j) s->cmp i j C s):∀ (t:KasT α),fG P R t->Q (CC o t) s->t.kasWp cmp Q s:=by
 intro t
 induction t with
 | ret a=>exact λh q=>q
 | ask i j k b=>exact λh q=>c i j _ h.1 (b (o i j) (h.2 _) q)
def gT (h:Heap) (vs:List Value):Prop:=∃ nm:Nat->Str,(∀ i v,vs[i]?=some v->∃ a o t n u k,v=.ref a/\h.get? a=some o/\o.cls=.type "tuple"/\o.data=.seq #[.str (nm i) t,.int k u] n)/\∀ i j,i<vs.length->j<vs.length->decide ((nm i).cps.toList<(nm j).cps.toList)=decide (j<i)/\(i≠j->nm i≠nm j)
def wM:∀ n,2<=n->n<=5->CC (λi j=>decide (j<i)) (kas_sort n)=(List.range n).reverse.toArray:=by
 intro n b a;obtain rfl | rfl | rfl | rfl:n=2\/n=3\/n=4\/n=5:=by omega
 all_goals left
def gT.mono (p:gT h vs) (k:∀ b o,h.get? b=some o->o.cls=.type "tuple"->h'.get? b=some o):gT h' vs:=by
 obtain⟨q,j,r⟩:=p;refine⟨q,λi v l=>?_,r⟩;obtain⟨a,o,t,n,u,m,e,g,c,d⟩:=j i v l;exact⟨a,o,t,n,u,m,e,k _ _ g c,c,d⟩
def gT.at (p:gT h vs):∀ v∈vs,Cw h v:=λv j=>by
 obtain⟨l,b,m⟩:=p;obtain⟨i,f⟩:=List.getElem?_of_mem j;obtain⟨a,o,t,n,u,k,e,g,c,d⟩:=b i v f;exact⟨a,o,_,t,k,u,n,e,g,c,d⟩
section
variable {prog:Program} {w:World} {A:Around} {E:VSP} {s:Shared}
def wz (p:gT s.heap N) (hi:i<N.length) (l:j<N.length) (d:C (decide (j<i)) s):wpAny ?L A (keyLt' (tuples' true) (N.getD i .none) (N.getD j .none)) C E s:=by
 obtain⟨y,k,o⟩:=p;have r:N[i]?=some (N.getD i Value.none):=by rw[List.getD_eq_getElem?_getD,gEE hi];rfl
 have q:N[j]?=some (N.getD j Value.none):=by rw[List.getD_eq_getElem?_getD,gEE l];rfl
 obtain⟨L,M,J,u,B,x,m,n,v,h⟩:=k i _ r;obtain⟨D,t,G,I,F,K,c,b,H,f⟩:=k j _ q;obtain⟨R,S⟩:=o i j hi l;rw[m,c];refine kat_lt n h b f ?_;refine kat_cons (eqBool_str ?_);refine kat_go (λe=>?_) (λ_=>kat_no (oneLt_str (by rw[R];exact d)));have a:=Classical.byContradiction λz=>S z (by simpa using e);subst a;rw[m] at c;cases c;rw[n] at b;cases b;rw[h] at f;cases f;have g:C false s:=by rw[decide_eq_false (Nat.lt_irrefl _)] at d;exact d
 refine kat_yes (kat_cons (wpAny_eqBool_int ?_));exact kat_go (λ_=>kat_yes (kat_nil g)) (λz=>absurd z ?B)
def jy (H:s.heap.get? a=some (seqObj "list" f.toArray n)) (ht:gT s.heap f) (N:f.length<=5)
 (h:∀ M:Array Value,M.toList=f.reverse->P (.done (.ret .none)) {s with heap:=sortedHeap s.heap a f M}):
 wpAny ?L A (Builtin.«list.sort» ⟨[.ref a],[]⟩) P E s:=by
 rw[list_sort_plain];have ha:=Heap.lt_size H;refine wB (listItems_at H U ?_);refine wB (listUpdate_at H U ?_);obtain⟨Y,G⟩:∃ Y,(s.heap.update a (Obj.mapSeq λ_=>#[])).get? a=some (seqObj "list" #[] Y):=⟨_,get?_update_seq H (λ_=>#[])⟩;refine wB (seqEpoch_at G U ?_);refine wB (wpAny_newTuple ?_);refine wB (wpAny_newList ?_);refine wpAny_holding ?_;have m:(((s.heap.update a (Obj.mapSeq λ_=>#[])).push (seqObj "tuple" f.toArray 0)).push (seqObj "list" #[] 0)).get? a=some (seqObj "list" #[] Y):=by
  rw[Heap.get?_push_ne _ _ _ (by rw[size_push',Heap.size_update];exact Nat.ne_of_lt (Nat.lt_succ_of_lt ha)),Heap.get?_push_ne _ _ _ (by rw[Heap.size_update];exact Nat.ne_of_lt ha)];exact G
 have q:gT (((s.heap.update a (Obj.mapSeq λ_=>#[])).push (seqObj "tuple" f.toArray 0)).push (seqObj "list" #[] 0)) f:=ht.mono λb o g c=>by
  have ne:b≠a:=λe=>by
   rw[e,H] at g;cases g;exact absurd (show Value.type "list"=Value.type "tuple" from c) ?G
  exact hpS _ (hpS _ (by rw[Heap.get?_update_ne _ _ _ _ ne];exact g))
 have F:=q.at;dsimp only;have O:f.toArray.size=f.length:=by simp
 by_cases z:f.toArray.size<2
 · rw[if_pos z,if_pos z];refine wB (wP ?_);rw[StateT.run_pure];refine wB (wP ?_);refine wB (seqEpoch_at m U ?_);refine wB (listUpdate_at m U ?_ (hsz2:=by rw[Array.size_map];show (pairsOf f).size<=_;rw[pairsOf_size,sizeLine_eq];lia));simp only[bne_self_eq_false,Bool.false_eq_true,if_false];refine wP (h _ ?_);have e:((arrOf (SortSt.mk' general' (f.toArray.zip f.toArray) #[] 7 none)).map (·.2)).toList=f:=by
    show ((f.toArray.zip f.toArray).map (·.2)).toList=f;simp[List.map_snd_zip]
   rw[e];rw[O] at z
   match f,z with
   | [],_=>rfl
   | [_],_=>rfl
   | _::_::_,z=>exact absurd z ?B
 · rw[if_neg z,if_neg z];have B:0<f.length:=by lia
   obtain⟨fs,kt,hfl,JU⟩:∃ fs,KatTups (((s.heap.update a (Obj.mapSeq λ_=>#[])).push (seqObj "tuple" f.toArray 0)).push (seqObj "list" #[] 0)) f fs/\fs.length=f.length/\∀ v∈fs,∃ x t,v=Value.str x t:=by
    clear h B N O z m q;generalize (((s.heap.update a (Obj.mapSeq λ_=>#[])).push (seqObj "tuple" f.toArray 0)).push (seqObj "list" #[] 0))=hh at F;clear ht H G
    induction f with
    | nil=>exact⟨[],KatTups.nil,U,λv Z=>by cases Z⟩
    | cons v r ih =>
     obtain⟨fs,k1,k2,k3⟩:=ih λy K=>F y (mCM _ K);obtain⟨b,o,x,t,i,u,k,rfl,g,c,d⟩:=F v mCS;refine⟨.str x t::fs,KatTups.cons g c d U k1,by simp[k2],λy K=>?_⟩
     rcases List.mem_cons.mp K with rfl | K
     · exact⟨x,t,U⟩
     · exact k3 y K
   refine wB (kat_kind (T:=.type "str") kt (by lia) (λv Z=>?_) ?G ?_)
   · obtain⟨x,t,rfl⟩:=JU v Z;exact .now
   · have hk:(kas_sort f.length).kasWp (kas_ask prog w A (tuples' (Value.type "str" != Value.type "tuple")) f) (λp J=>p=(List.range f.length).reverse.toArray/\J={s with heap:=((s.heap.update a (Obj.mapSeq λ_=>#[])).push (seqObj "tuple" f.toArray 0)).push (seqObj "list" #[] 0)}) {s with heap:=((s.heap.update a (Obj.mapSeq λ_=>#[])).push (seqObj "tuple" f.toArray 0)).push (seqObj "list" #[] 0)}:=by
      refine fG.run (R:=cW f.length) (o:=λi j=>decide (j<i)) (λi j C I hC=>wz q I.1 I.2 hC) _ (xV B) ⟨wM _ ?A N,U⟩
     refine wB (wpAny_mono (kat_run (Q:=λS J=>∃ p:Array Nat,p.size=f.length/\arrOf S=p.map (kas_item (f.toArray.zip f.toArray))/\failedOf S=none/\p=(List.range f.length).reverse.toArray/\J={s with heap:=((s.heap.update a (Obj.mapSeq λ_=>#[])).push (seqObj "tuple" f.toArray 0)).push (seqObj "list" #[] 0)})
       rfl (by lia) ?A (λp' S J a1 a2 a3 a4=>⟨p',a1,a2,a3,a4⟩) hk) ?_ λ_ _ e=>e)
     rintro⟨⟨⟩,S⟩ J ⟨p,hp,IS,hf,W,rfl⟩;dsimp only;have L:=kat_snds rfl IS;rw[L];refine wB (seqEpoch_at m U ?_);refine wB (listUpdate_at m U ?_ (hsz2:=by rw[List.size_toArray,lMp,Array.length_toList,hp,sizeLine_eq];lia));rw[hf];simp only[bne_self_eq_false,Bool.false_eq_true,if_false];refine wP (h _ ?_);rw[W];show ((List.range f.length).reverse).map (λi=>f.getD i Value.none)=f.reverse;rw[List.map_reverse];congr 1;apply List.ext_getElem?;intro i;rw[gEM];by_cases hi:i<f.length
     · rw[List.getElem?_range hi,Option.map_some,List.getD_eq_getElem?_getD,gEE hi];rfl
     · rw[List.getElem?_eq_none (by rw[List.length_range];omega),List.getElem?_eq_none ?A];rfl
def lL {Q:VSP} (k:s.heap.IsList l a.toArray) (m:gT s.heap a) (e:a.length<=5)
 (h:∀ b:Array Value,b.toList=a.reverse->Q (.ref (s.heap.objs.size+1)) {s with heap:=sortedAll s.heap a b}):
 wpAny ?L A (call (.builtin "sorted") [.ref l]) Q E s:=by
 refine Calls.call_function_entry kind_sorted plain_sorted entry_sorted (args_sorted1 _) ?_;unfold Builtin.«sorted»;refine wB (wP ?_);refine wB (collect_list k ?_);refine wB (wpAny_newList ?_);have c:(?Ab).objs.size=s.heap.objs.size+1:=by
  rw[Heap.size_update,size_push']
 have d:((?Ab).push (seqObj "list" a.toArray 0)).get? (s.heap.objs.size+1)=some (seqObj "list" a.toArray 0):=by
  rw[<- c];exact Heap.get?_push_size _ U
 have n:gT ((?Ab).push (seqObj "list" a.toArray 0)) a:=m.mono λb o g _=>by
  refine hpS _ ?_;ext m
 rw[c];refine wB (wpAny_holding (wpAny_call_entry slot_list_sort ⟨_,d,U⟩ entry_list_sort (jy d n e λb p=>⟨_,U,?_⟩) (args_list_sort _)));exact wP ⟨_,U,h b p⟩
end
def tT (a:b7 xs vs) (b:b7 ys us):b7 (xs++ys) (vs++us):=by
 induction a with
 | nil=>exact b
 | cons r _ c=>exact .cons r c
def tQ (a:b7 xs vs):b7 xs.reverse vs.reverse:=by
 induction a with
 | nil=>exact .nil
 | cons r _ b=>rw[List.reverse_cons,List.reverse_cons];exact tT b (.cons r .nil)
inductive AE (K:Fg) (xs:List V) (H:Hp) (Q:VK):Prop
  | mk (p:Addr) (ys:List V) (nm:Nat->Str) (h1:xs=[.ref p]) (h2:SqL K H p ys) (h3:ys.length<=5) (h4:∀ i y,ys[i]?=some y->∃ (a:Addr) (k:Int),y=.ref a/\SqT K H a [.str (nm i),.int k]) (h5:∀ i j,i<ys.length->j<ys.length->decide ((nm i).cps.toList<(nm j).cps.toList)=decide (j<i)/\(i≠j->nm i≠nm j)) (q:∀ (l:Addr),H l=none->Q (.ref l) (upd H l (.lst ys.reverse))):AE K xs H Q
def As (K:Fg):List V->Hp->VK->Prop:=λxs H Q=>AE K xs H Q
def oh:fZ X (.builtin "sorted") (As X.K):=by
 intro A s σ H xs us Q I L h;obtain⟨p,l,Y,rfl,R,hl,S,J,q⟩:=h;obtain⟨u,rfl,M⟩:=iN L;cases M;obtain⟨c,f,P,hz⟩:=I.list R;have G:=f.length;have d:gT s.heap c:=⟨Y,λi v E=>by
   have D:i<l.length:=by have:=(gES.mp E).1;omega
   obtain⟨y,F⟩:∃ y,l[i]?=some y:=⟨_,gEE D⟩;obtain⟨v',C,r⟩:=f.get F;rw[E] at C;cases C;obtain⟨a,k,rfl,ha⟩:=S i y F;cases (show v=Value.ref a from r);obtain⟨HQ,W,⟨o,g1,Z,n,O⟩,_⟩:=I.tuple ha;obtain⟨u1,u2,e,⟨t1,rfl⟩,⟨t2,rfl⟩⟩:=W.two;refine⟨a,o,t1,n,t2,k,U,g1,Z,?_⟩;rw[O,e],λi j D hj=>J i j ?A ?A⟩
 refine lL P.isList d ?A λm a1=>?_;have rz:b7 l.reverse m.toList:=by rw[a1];exact tQ f
 have T:∀ b o,s.heap.get? b=some o->((s.heap.push (seqObj "list" #[] 0)).update s.heap.objs.size (Obj.mapSeq (·++c.toArray))).get? b=some o:=λb o g=>by
  ext m
 have w:((s.heap.push (seqObj "list" #[] 0)).update s.heap.objs.size (Obj.mapSeq (·++c.toArray))).objs.size=s.heap.objs.size+1:=by
  rw[Heap.size_update,size_push']
 have t:=I.kept (t':=s.toks) T;have B:(((s.heap.push (seqObj "list" #[] 0)).update s.heap.objs.size (Obj.mapSeq (·++c.toArray))).push (seqObj "list" c.toArray 0)).get? ((s.heap.push (seqObj "list" #[] 0)).update s.heap.objs.size (Obj.mapSeq (·++c.toArray))).objs.size=some (seqObj "list" c.toArray 0):=Heap.get?_push_size _ rfl;have ll:l.reverse.length<=sizeLine:=by
  rw[List.length_reverse];have:60<=sizeLine:=by decide
  omega
 unfold sortedAll;rw[<- w];generalize (s.heap.push (seqObj "list" #[] 0)).update s.heap.objs.size (Obj.mapSeq (·++c.toArray))=h4 at t B ⊢;obtain⟨e,N⟩:=sortedHeap_at B;refine⟨.ref h4.objs.size,_,t.turnedNew (ch:=[]) (o:=.lst l.reverse) (λb z=>by cases z) (λb o z g=>?_) ⟨ll,m.toList,e,rz,by rw[Array.toArray_toList];exact N⟩,U,q _ t.fresh⟩;have x:=Heap.lt_size g;rw[sortedHeap_old (Nat.ne_of_lt x) (by rw[Heap.size_push];exact Nat.lt_succ_of_lt x)];exact hpS _ g
def uZ {p a:Pos} (b:X.mg "sorted"=none) (d:PA X (e::es) t) (c:Gl X "sorted":=by rfl)
 (he:starEach (e::es) X.env=?U::starEach es X.env:=by rfl) (hpl:(backTo a (starEach es X.env)).any (·.1)=false:=by rfl):
 PE X (.Call (.Name "sorted" p) (e::es) [] a) (tCB (As X.K) t):=fw oh c b gx d (he:=he) (hpl:=hpl)
end L2
namespace K13
open PySem L2 PySem.Spec PyProof.Rows PySem.SeqAt
def LeS (a b:Str):Prop:=¬ b.cps.toList<a.cps.toList
def yH {a b:Str} (h:a.cps.toList=b.cps.toList):a=b:=by
 cases a;cases b;congr 1;exact Array.toList_inj.mp h
def iY (d:LeS a b) (c:LeS b a):a=b:=yH (List.le_antisymm (show a.cps.toList<=b.cps.toList from d) c)
def uo (e:LeS a b) (d:LeS b c):LeS a c:=List.le_trans (show a.cps.toList<=b.cps.toList from e) (show b.cps.toList<=c.cps.toList from d)
def sy:(!ltCps b.cps.toList a.cps.toList)=true↔LeS a b:=by
 rw[ltCps_eq,Bool.not_eq_true',decide_eq_false_iff_not];rfl
def u7:∀ (l:List Str) (p:Str),risingS p l=true->(p::l).Pairwise LeS:=by
 intro l
 induction l with
 | nil=>intro p _;exact List.pairwise_singleton ..
 | cons x r f =>
  intro p h;have c:(!ltCps x.cps.toList p.cps.toList&&risingS x r)=true:=h;rw[Bool.and_eq_true] at c;have a:=sy.mp c.1;have b:=f x c.2;refine List.pairwise_cons.mpr ⟨λy d=>?_,b⟩
  rcases List.mem_cons.mp d with rfl | d
  · exact a
  · exact uo a ((List.pairwise_cons.mp b).1 y d)
def jp (h:sortedS l=true):l.Pairwise LeS:=by
 cases l with
 | nil=>exact .nil
 | cons x r=>exact u7 r x h
def sg (b:sortedS xs=true) (a:sortedS ys=true) (p:xs.Perm ys):xs=ys:=p.eq_of_pairwise (λ_ _ _ _=>iY) (jp b) (jp a)
def oS {xs ys:List Int} (b:xs.Pairwise (·<=·)) (a:ys.Pairwise (·<=·)) (p:xs.Perm ys):xs=ys:=p.eq_of_pairwise (λ_ _ _ _=>Int.le_antisymm) b a
def uf (a:ys.Nodup) (so:sortedS ys=true) (m:∀ x,x∈ys↔x∈ns):ns=ys↔(sortedS ns=true/\ns.Nodup):=by
 constructor
 · intro e;rw[e];exact⟨so,a⟩
 · intro h;exact sg h.1 so ((List.perm_ext_iff_of_nodup h.2 a).mpr λx=>(m x).symm)
def uh (k:ys.Perm d) (s:sortedS ys=true):(d=ys/\∀ i a b,d[i]?=some a->d[i+1]?=some b->b≠a)↔(sortedS d=true/\d.Nodup):=by
 constructor
 · rintro⟨e,h⟩;have c:sortedS d=true:=by rw[e];exact s
   refine⟨c,?_⟩;have p:=jp c;clear k s e c ys
   induction d with
   | nil=>exact List.nodup_nil
   | cons x r o =>
    obtain⟨p1,l⟩:=List.pairwise_cons.mp p;refine List.nodup_cons.mpr ⟨λq=>?_,o (λi a b j f=>h (i+1) a b j f) l⟩;cases r with
    | nil=>cases q
    | cons y r =>
     have u:=h 0 x y rfl rfl
     rcases List.mem_cons.mp q with e | q
     · exact u e.symm
     · exact u (iY ((List.pairwise_cons.mp l).1 x q) (p1 y (mCS ..)))
 · rintro⟨j,f⟩;refine⟨sg j s k.symm,λi a b m n e=>?_⟩;have:=(List.getElem?_inj (gES.mp m).1 f).mp (m.trans (by rw[<- e];exact n.symm));omega
def opn:Int->PDs->List Int
  | _,[]=>[]
  | i,d::r=>if bu d="open" then i::opn (i+1) r else opn (i+1) r
def sn:∀ (a b:PDs) (i:Int),opn i (a++b)=opn i a++opn (i+a.length) b:=by
 intro a
 induction a with
 | nil=>intro b i;rw[List.nil_append];show _=[]++opn (i+0) b;rw[Int.add_zero,List.nil_append]
 | cons d r c =>
  intro b i;have e:opn (i+1+r.length) b=opn (i+((r.length+1:Nat))) b:=by congr 1;omega
  show (if bu d="open" then i::opn (i+1) (r++b) else opn (i+1) (r++b))=(if bu d="open" then i::opn (i+1) r else opn (i+1) r)++opn (i+((r.length+1:Nat):Int)) b;rw[c,e];split <;> rfl
def oU {fs:PDs} (h:fs[k]?=some d):opn 0 (fs.take (k+1))=opn 0 (fs.take k)++(if bu d="open" then [((k:Nat):Int)] else []):=by
 have a:=(gES.mp h).1;rw[tAO,h,Option.toList_some,sn,lTk,Nat.min_eq_left (Nat.le_of_lt a),Int.zero_add];rfl
def lf:∀ (a:PDs) (i:Int),(opn i a).Pairwise (·<=·)/\(∀ x∈opn i a,i<=x/\x<i+a.length)/\(opn i a).length<=a.length:=by
 intro a
 induction a with
 | nil=>intro i;exact⟨.nil,λx h=>(by cases h),Nat.le_refl _⟩
 | cons d r f =>
  intro i;obtain⟨g,c,k⟩:=f (i+1);have e:opn i (d::r)=if bu d="open" then i::opn (i+1) r else opn (i+1) r:=rfl
  rw[e,List.length_cons];split
  · refine⟨List.pairwise_cons.mpr ⟨λy j=>by have:=(c y j).1;omega,g⟩,λx b=>?_,by rw[List.length_cons];omega⟩
    rcases List.mem_cons.mp b with rfl | b
    · exact⟨Int.le_refl _,by omega⟩
    · have:=c x b;omega
  · grind
def nmD (d:PyData):Str:=bu d
def nrD (d:PyData):Int:=aY (p0 d)
structure y8 (os fs:PDs):Prop where
  nm:sortedS (os.map nmD)=true
  nd:(os.map nmD).Nodup
  nr:(os.map nrD).Perm (opn 0 fs)
end K13
namespace L2
open PySem PySem.Spec PyProof.Rows
open AutoSeq1 (wpAny_loadPart')
section
variable {prog:Program} {w:World} {A:Around} {E:VSP} {s:Shared}
def Cj (l:Addr) (b:Array Value) (n:Nat) (f:Option Addr) (sl:Array (Option Value)) :
 Meets (Builtin.«enumerate.__new__» ⟨[.type "enumerate",.ref l],[]⟩) (λ_ R s=>s.heap.get? l=some ⟨.type "tuple",f,.seq b n,sl⟩ /\
   R (.ok (.ret (.ref (s.heap.push ⟨.type "tuple_iterator",none,.fields #[.ref l,.int 0 0],#[]⟩).objs.size))) {s with heap:=(s.heap.push ⟨.type "tuple_iterator",none,.fields #[.ref l,.int 0 0],#[]⟩).push ⟨.type "enumerate",none,.fields #[.none,.bool false,.ref s.heap.objs.size,rawInt 0,.none,.none],#[]⟩}) :=
 .of_wp λP W B R s z=>by
  rcases s with ⟨h,i,j,k,m⟩;rcases z with ⟨d,z⟩
  have o:=sub_enumerate;have g:Heap.IsTuple (Shared.heap ⟨h,i,j,k,m⟩) l b:=⟨_,d,U,n,U⟩
  wp_walk using wpAny_loadPart' d
  refine wpAny_stack_any λst=>wP ?_;split
  · rename_i c _ _ _ _ _
    cases (c==Value.type "enumerate")
    · wp_walk using wpAny_loadPart' d,wpAny_pyIter_tuple g;exact⟨_,U,z⟩
    · wp_walk using wpAny_loadPart' d,wpAny_pyIter_tuple g;exact⟨_,U,z⟩
  · wp_walk using wpAny_loadPart' d,wpAny_pyIter_tuple g;exact⟨_,U,z⟩
def xN {Q:VSP} (j:s.heap.IsTuple l a)
 (q:∀ f,IsEnum f (s.heap.objs.size+1) s.heap.objs.size 0 .none->f.IsTupleIter s.heap.objs.size l 0->(∀ b o,s.heap.get? b=some o->f.get? b=some o)->Q (.ref (s.heap.objs.size+1)) {s with heap:=f}):
 wpAny ?L A (call (.type "enumerate") [.ref l]) Q E s:=by
 obtain⟨⟨c,h,k,m⟩,p,r,n,t⟩:=j;cases (show c=.type "tuple" from r);cases (show k=.seq a n from t);refine callType_new F.called_enumerate ?G (F.typeCall_enumerate_1 _) (F.newCall_enumerate_1 _) (λd=>F.args_object_init_2 d _) F.entry_enumerate_new (Cj l a n h m) ⟨p,?_⟩;have u:(s.heap.push ⟨.type "tuple_iterator",none,.fields #[.ref l,.int 0 0],#[]⟩).objs.size=s.heap.objs.size+1:=Heap.size_push ..;have g:=Heap.get?_push_size (s.heap.push ⟨.type "tuple_iterator",none,.fields #[.ref l,.int 0 0],#[]⟩) (o:=⟨.type "enumerate",none,.fields #[.none,.bool false,.ref s.heap.objs.size,rawInt 0,.none,.none],#[]⟩) rfl;rw[u] at g ⊢;exact⟨⟨_,g,U⟩,q _ g ⟨_,hpS _ (Heap.get?_push_size _ U),U,U⟩ λb o x=>hpS _ (hpS _ x)⟩
variable {e a G:Addr} {xs:Array Value} {J:Nat->Heap->Prop} {k:Nat} {x old:Value}
def zO (W:Drw prog w a G xs J) (he:IsEnum s.heap e a k D) (st:J k s.heap) (hx:xs[k]?=some x) (N:e≠a) (ns:e≠G)
 (q:∀ p,IsEnumOut p e a ((k:Int)+1) x s.heap.objs.size->J (k+1) p->p.get? s.heap.objs.size=some ⟨.type "tuple",none,.seq #[.int k s.toks,x] 0,#[]⟩->(∀ b o,b≠e->b≠a->s.heap.get? b=some o->p.get? b=some o)->Q (some ?V) {s with heap:=p,toks:=s.toks+1}):
 wpAny ?L A (pyNext (.ref e)) Q E s:=by
 have hT:s.TypeIs (.ref e) "enumerate":=⟨_,he,U⟩;unfold pyNext;refine wB (wpAny_attempt (wpAny_callSpecial?_slot hT F.slot_enumerate_next (wpAny_call_entry F.slot_enumerate_next hT F.entry_enumerate_next ?_ (F.args_enumerate_next_1 _))));obtain⟨j,O,P,d,R⟩:=s;show wpAny _ _ (field (.ref e) 2>>=_) _ _ _;refine wB (wpAny_field he U U ?_);refine wB (W.item _ _ _ k x _ st hx λS T n=>?_);replace n:Heap.SameBut a j S:=n;have y:=(n.2 e N).trans he;refine wB (wpAny_field y U U ?_);refine wB (wpAny_field y U U ?_);refine wB (wpAny_mkInt ?_);refine wB (wpAny_setField_rec y ?B λK z r=>?_);replace r:Heap.SameBut e S K:=r;replace z:IsEnum K e a (k+1) D:=z;refine wB (wpAny_setField_rec z ?B λC u c=>?_);replace c:Heap.SameBut e K C:=c;replace u:IsEnum C e a ((k:Int)+1) D:=u;show wpAny _ _ (newTuple [.int k d,x]>>=_) _ _ ⟨C,O,P,d+1,R⟩;refine wB (wpAny_newTuple ?_);have Y:C.objs.size=j.objs.size:=by rw[c.1,r.1,n.1]
 have t:IsEnum (C.push {cls:=.type "tuple",data:=.seq #[.int k d,x]}) e a ((k:Int)+1) D:=hpS _ u;have t4:(C.push {cls:=.type "tuple",data:=.seq #[.int k d,x]}).get? j.objs.size=some ⟨.type "tuple",none,.seq #[.int k d,x] 0,#[]⟩:=by rw[<- Y];exact Heap.get?_push_size _ U
 have B:∀ b o,b≠e->S.get? b=some o->(C.push {cls:=.type "tuple",data:=.seq #[.int k d,x]}).get? b=some o:=λb o f g=>hpS _ (c.extBut b o f (r.extBut b o f g));show wpAny _ _ (Builtin.SmallTypes.ownedTupleIsFree (.ref e)>>=_) _ _ ⟨C.push {cls:=.type "tuple",data:=.seq #[.int k d,x]},O,P,d+1,R⟩;rw[Y];generalize C.push {cls:=.type "tuple",data:=.seq #[.int k d,x]}=p4 at t t4 B ⊢;clear u c z r y Y C K;have el:e<j.objs.size:=Heap.lt_size he;refine wB ?_;unfold Builtin.SmallTypes.ownedTupleIsFree;refine wB (wpAny_field t U (x:=.none) U (wP ?_));simp only[if_true];refine wB (wpAny_rule ?_);refine wB (wpAny_field t U (x:=D) U ?_);refine wB (wpAny_setField_rec t ?B λL Z l=>?_);replace l:Heap.SameBut e p4 L:=l;replace Z:IsEnum L e a ((k:Int)+1) x:=Z;show wpAny _ _ (Builtin.SmallTypes.ownedTupleHandOut (.ref e) (.ref j.objs.size)>>=_) _ _ ⟨L,O,P,d+1,R⟩;refine wB ?_;unfold Builtin.SmallTypes.ownedTupleHandOut;refine wB (wpAny_setField_rec Z ?B λp6 e6 m=>?_);replace m:Heap.SameBut e L p6:=m;replace e6:IsEnumOut p6 e a ((k:Int)+1) x j.objs.size:=e6;refine wpAny_setField_rec e6 ?B λM e7 Kw=>?_;replace Kw:Heap.SameBut e p6 M:=Kw;replace e7:IsEnumOut M e a ((k:Int)+1) x j.objs.size:=e7;have v:∀ b o,b≠e->p4.get? b=some o->M.get? b=some o:=λb o f g=>Kw.extBut b o f (m.extBut b o f (l.extBut b o f g));refine wB (wpAny_letGo (wP ⟨_,U,wP (q M e7 ?_ (v _ _ (Nat.ne_of_gt el) t4) λb o f hi g=>v b o f (B b o f (n.extBut b o hi g)))⟩));exact W.ext _ _ _ T (λo g=>v a o (Ne.symm N) (B a o (Ne.symm N) g)) λo g=>v G o (Ne.symm ns) (B G o (Ne.symm ns) g)
def zN (W:Drw prog w a G xs J) (f:A.handled=none) (he:IsEnum s.heap e a k old) (st:J k s.heap) (h:xs[k]?=none) (q:∀ b,Heap.ExtBut a s.heap b->Q none {s with heap:=b}):wpAny ?L A (pyNext (.ref e)) Q E s:=by
 have c:s.TypeIs (.ref e) "enumerate":=⟨_,he,U⟩;unfold pyNext;refine wB (wpAny_attempt (wpAny_callSpecial?_slot c F.slot_enumerate_next (wpAny_call_entry F.slot_enumerate_next c F.entry_enumerate_next ?_ (F.args_enumerate_next_1 _))));show wpAny _ _ (field (.ref e) 2>>=_) _ _ _;refine wB (wpAny_field he U U ?_);refine wB (W.stop _ _ _ k _ f st h λh' y i ⟨o,g,d⟩=>?_);exact wB (wpAny_isInstance ⟨o,g,d⟩ isSubtype_stop (wP (q _ i)))
end
def yc (K:Fg) (a:Addr):It :=
  ⟨λi H=>∃ xs x,SqT K H a xs/\xs[i]?=some x,λi H v H'=>∃ t x,v=.ref t/\H t=none/\H'=upd H t (.tup [.int i,x])/\∀ xs,SqT K H a xs->xs[i]?=some x,λi H=>∃ xs,SqT K H a xs/\xs.length<=i⟩
def qv {P:Program} {w:World} {K:Fg} {Ic:List Expr} {k} {pos:Pos} (a e f:Addr) (Il:e≠f) :
 kh P w K (.Tuple Ic k pos) (yc K a) [e,f] e (λi h=>(∃ j,IsEnum h e f i j)/\h.IsTupleIter f a i) where
 mem:=mCS
 obj:=λi h y b t=>by
  obtain⟨⟨j,m⟩,o,W,c,d⟩:=y
  rcases List.mem_cons.mp t with rfl | q
  · exact⟨_,m,λv z=>by cases z⟩
  · cases mSg.mp q;exact⟨o,W,λv z=>by rw[d] at z;cases z⟩
 keep:=λi h h' y k=>⟨let ⟨j,m⟩:=y.1;⟨j,k e ?B _ m⟩,y.2.at λo W=>k f ?B o W⟩
 item:=by
  intro X hP hw hK g i C s σ H E I Y y hg;subst hP hw hK;obtain⟨xs,x,hq,hx⟩:=hg;obtain⟨A,rv,p,hz⟩:=I.tuple hq;obtain⟨u,hu,ru⟩:=rv.get hx;obtain⟨⟨j,m⟩,N⟩:=y;obtain⟨e0,e1,e2,e3,e4,e5⟩:=Y e ?B;obtain⟨f0,f1,f2,f3,f4,f5⟩:=Y f ?B;have S:=p;obtain⟨oT,D,Q,nT,dT⟩:=id S;have ns:a≠e:=λz=>by rw[z,show s.heap.get? e=_ from m] at D;cases D;exact absurd (Value.type.inj Q) ?G
  have G:a≠f:=λz=>by obtain⟨oi,M,ci,_⟩:=id N;rw[z,M] at D;cases D;rw[ci] at Q;exact absurd (Value.type.inj Q) ?G
  refine zO (fL f a G A.toArray) m ⟨N,S⟩ (x:=u) (by simpa using hu) Il (Ne.symm ns) λh' W jt hT hk=>?_;refine⟨_,U,wpAny_letOwnedTupleGo_enum (s:={s with heap:=h',toks:=s.toks+1}) W λh2 JK F=>?_⟩;have O:∀ b o,b≠e->b≠f->s.heap.get? b=some o->h2.get? b=some o:=λb o q1 q2 z=>(F.2 b q1).trans (hk b o q1 q2 z);have J0:e<s.heap.objs.size:=Heap.lt_size m;have hT2:=(F.2 _ (Nat.ne_of_gt J0)).trans hT;have JJ:H s.heap.objs.size=none:=I.hok.fresh ?M;have R:∀ {b:Addr} {o:HO},H b=some o->b≠s.heap.objs.size:=λ{b o} q z=>by rw[z,JJ] at q;cases q
  have ne:∀ {b:Addr} {o:HO},H b=some o->b≠e:=λ{b o} q z=>by rw[z,e0] at q;cases q
  have ni:∀ {b:Addr} {o:HO},H b=some o->b≠f:=λ{b o} q z=>by rw[z,f0] at q;cases q
  have l:∀ {b:Addr},b∉[e,f]->b≠e/\b≠f:=λ{b} z=>⟨λq=>z (by simp[q]),λq=>z (by simp[q])⟩;have I2:Inv X C σ (upd H s.heap.objs.size (.tup [.int i,x])) {s with heap:=h2,toks:=s.toks+1}:=by
   refine I.step (g':=s.gens) (d':=s.drawn) (ch:=[e,f]) (λb t=>?_) (λb o _ _ g z _=>O b o (l g).1 (l g).2 z) (λb o _ _ g z _=>⟨o.slots,O b o (l g).1 (l g).2 z⟩) (λb o _ z n=>by rw[ai (Nat.ne_of_lt (Heap.lt_size z))];exact n)
    (λb o g z=>⟨o,O b o (l g).1 (l g).2 z⟩) (λb xs z=>by rw[ai (R z)];exact z) (λb o u z=>by rw[ai (R z)];exact z) (λb ps z=>⟨#[],by rw[ai (R z),z];simp⟩) (λm hm=>?_) (λb o z=>?_) I.bare
   · grind
   · obtain⟨o,es,ep,T,r⟩:=hm;exact⟨o,es,ep,O _ o (Ne.symm e1) (Ne.symm f1) T,r⟩
   · by_cases t:b=s.heap.objs.size
     · rw[t,pF] at z;cases z;rw[t];exact⟨jk,[.int i s.toks,u],.cons ⟨_,U⟩ (.cons ru .nil),⟨_,hT2,U,_,U⟩⟩
     · rw[ai t] at z;refine (I.hok b o z).stay (λc v g B=>?_) (λc B=>by rw[ai (R B)];exact B) λc xs B=>by rw[ai (R B)];exact B
       rcases g with rfl | g
       · exact O _ _ (ne z) (ni z) B
       · exact O _ _ (ne g) (ni g) B
  refine⟨.ref s.heap.objs.size,_,I2,U,⟨_,x,U,JJ,U,λys hy=>by rw[I.tuple_inj hy hq];exact hx⟩,⟨⟨u,by simpa using JK⟩,jt.1.at λo T=>(F.2 f (Ne.symm Il)).trans T⟩,λb t=>?_⟩;have Kk:b<s.heap.objs.size:=by
   rcases List.mem_cons.mp t with rfl | q
   · exact J0
   · cases mSg.mp q;obtain⟨o,T,_⟩:=N;exact Heap.lt_size T
  rw[ai (Nat.ne_of_lt Kk)];exact (Y b t).1
 done:=by
  intro X hP hw hK g i C s σ H E I Y y hg;subst hP hw hK;obtain⟨xs,hq,hx⟩:=hg;obtain⟨A,rv,p,hz⟩:=I.tuple hq;obtain⟨⟨j,m⟩,N⟩:=y;obtain⟨f0,f1,f2,f3,f4,f5⟩:=Y f ?B;have hl:=rv.length;have S:s.heap.IsTuple a A.toArray:=p;obtain⟨oT,D,Q,nT,dT⟩:=id S;have G:a≠f:=λz=>by obtain⟨oi,M,ci,_⟩:=id N;rw[z,M] at D;cases D;rw[ci] at Q;exact absurd (Value.type.inj Q) ?G
  exact zN (fL f a G A.toArray) (I.ok.hd g) m ⟨N,S⟩ ?Q λh' eb=>⟨U,I.turned (t':=s.toks) (λb o t z=>eb b o t z) f0 f1 f3 f4 f5⟩
 self:=λ_ _ _ _ _ y h=>let ⟨_,m⟩:=y.1;wpAny_pyIter_enum m h
def Cd (K:Fg) (ta:TA):TI:=λσ H R=>ta σ H λvs H1=>∃ a xs,vs=[.ref a]/\SqT K H1 a xs/\R (yc K a) H1
def kf:bootBuiltins "enumerate"=some (.type "enumerate"):=by left
def l7 {X:Cx} {y:List Expr} {k} {e:Pos} {a:Expr} {n:TA} {p f:Pos} (A:Gl X "enumerate") (B:X.mg "enumerate"=none) (C:PA X [a] n) (D:starEach [a] X.env=[(false,eval a X.env)]:=by rfl):PI X (.Tuple y k e) (.Call (.Name "enumerate" p) [a] [] f) (Cd X.K n):=by
 intro c s o H R I h;refine Call_ (e8 I A B kf (PyProof.Rows.callWith_type1 (thn (C f c s o H _ I h) λQ d E=>?_) D U));obtain⟨S,t,i,F,l,T,rfl,G,q⟩:=E;cases F with
 | cons r J =>
  cases J;cases r;obtain⟨j,W,p,Y⟩:=i.tuple G;refine xN (show d.heap.IsTuple l j.toArray from p) λL v M N=>wpAny_pyIter_enum v ?_;have O:Inv X c o t {d with heap:=L}:=i.kept (t':=d.toks) N;refine⟨d.heap.objs.size+1,[d.heap.objs.size+1,d.heap.objs.size],_,yc X.K l,t,U,O,qv l _ _ (Nat.succ_ne_self _),⟨⟨_,by simpa using v⟩,M⟩,λb P=>?_,q⟩;have x:d.heap.objs.size<=b:=by
   rcases List.mem_cons.mp P with rfl | z
   · exact Nat.le_succ _
   · cases mSg.mp z;exact Nat.le_refl _
  exact i.fpOk x (i.hok.fresh x)
def bj.enumT {K:Fg} {a:Addr} {xs:List V} {g:TG} {tc:TT} {te:TE} {Q:VK} {j:St} {r:Hp} {L:Addr} (e:Nat->St->Hp->Prop) (w:e 0 j (upd r L (.lst []))) (y:∀ i b H,i<=xs.length->e i b H->SqT K H a xs)
 (z:∀ i x b H t,xs[i]?=some x->e i b H->H t=none->g (.ref t) b (upd H t (.tup [.int i,x])) λd A=>tc d A λc s=>if c=true then te d s λv u=>∃ l,u L=some (.lst l)/\l.length<sizeLine/\e (i+1) d (upd u L (.lst (l++[v]))) else e (i+1) d s)
 (B:∀ b H,e xs.length b H->Q (.ref L) H):bj (yc K a) g tc te Q j r L:=by
 refine⟨λi m b H=>i<=xs.length/\m=xs.length-i/\e i b H,⟨_,Nat.zero_le _,U,w⟩,?_⟩;rintro i m b H ⟨C,D,n⟩;have o:=y i b H C n;by_cases f:i<xs.length
 · refine .inr ⟨⟨xs,xs[i],o,by simp[f]⟩,λk p=>e (i+1) k p,λk p q=>⟨xs.length-(i+1),by rw[D];exact Nat.sub_succ_lt_self _ _ f,f,U,q⟩,?_⟩;rintro v p ⟨t,x,rfl,E,rfl,F⟩;exact z i x b H t (F xs o) n E
 · obtain rfl:i=xs.length:=by omega
   exact .inl ⟨⟨xs,o,Nat.le_refl _⟩,B b H n⟩
end L2
namespace K13
open PySem L2 PySem.Spec PyProof.Rows PySem.SeqAt
def Fh:∀ (xs ys:List Str),PyData.eqvAll (xs.map .str) (ys.map .str)=decide (xs=ys):=by
 intro xs
 induction xs with
 | nil=>intro ys;cases ys <;> rfl
 | cons x r a =>
  intro ys;cases ys with
  | nil=>rfl
  | cons y q =>
   show ((x==y)&&PyData.eqvAll (r.map .str) (q.map .str))=_;rw[a];by_cases b:x=y
   · subst b;simp
   · grind
def Ci:∀ (xs ys:List Int),PyData.eqvAll (xs.map .int) (ys.map .int)=decide (xs=ys):=by
 intro xs
 induction xs with
 | nil=>intro ys;cases ys <;> rfl
 | cons x r a =>
  intro ys;cases ys with
  | nil=>rfl
  | cons y q =>
   show ((x==y)&&PyData.eqvAll (r.map .int) (q.map .int))=_;rw[a];by_cases b:x=y
   · subst b;simp
   · grind
def He {xs:List Str} (h:∀ x∈xs,bD x=true):PyData.canLayAll0 (xs.map .str)=true:=by
 induction xs with
 | nil=>rfl
 | cons x r b =>
  show (PyData.canLay0 (.str x)&&PyData.canLayAll0 (r.map .str))=true;rw[b λy d=>h y (mCM _ d),Bool.and_true];show PyData.strOk x=true;have a:=h x (mCS ..);unfold bD at a;rw[Bool.and_eq_true] at a;unfold PyData.strOk;rw[<- Array.all_toList];refine List.all_eq_true.mpr λc e=>?_;have:=List.all_eq_true.mp a.2 c e;unfold inR at this;rw[Bool.and_eq_true] at this;have f:=of_decide_eq_true this.2;exact decide_eq_true ?A
def Fm (xs:List Int):PyData.canLayAll0 (xs.map .int)=true:=by
 induction xs with
 | nil=>rfl
 | cons x r a=>show (true&&PyData.canLayAll0 (r.map .int))=true;rw[a];rfl
def dpS (xs:List Str):PyData.depthAll (xs.map .str)=0:=by
 induction xs with
 | nil=>rfl
 | cons x r a=>show max 0 (PyData.depthAll (r.map .str))=0;rw[a];rfl
def dpI (xs:List Int):PyData.depthAll (xs.map .int)=0:=by
 induction xs with
 | nil=>rfl
 | cons x r a=>show max 0 (PyData.depthAll (r.map .int))=0;rw[a];rfl
def shS {xs:List Str} (h:∀ x∈xs,bD x=true):shaped (.list (xs.map .str))=true:=by
 show (PyData.canLayAll0 (xs.map .str)&&decide (PyData.depthAll (xs.map .str)+1<=64))=true;rw[He h,dpS];rfl
def shI (xs:List Int):shaped (.list (xs.map .int))=true:=by
 show (PyData.canLayAll0 (xs.map .int)&&decide (PyData.depthAll (xs.map .int)+1<=64))=true;rw[Fm,dpI];rfl
def zR {K:Fg} {xs:List Str} (h:SqL K H a (xs.map V.str)):gX K H (.ref a) (.list (xs.map .str)):=by
 refine .lst h ?_;clear h
 induction xs with
 | nil=>exact .nil
 | cons x r b=>exact .cons (.str x) b
def zS {K:Fg} {xs:List Int} (h:SqL K H a (xs.map V.int)):gX K H (.ref a) (.list (xs.map .int)):=by
 refine .lst h ?_;clear h
 induction xs with
 | nil=>exact .nil
 | cons x r b=>exact .cons (.int x) b
section
variable {K:Fg} {H:Hp}
def sZ (st:L2.St->Prop) (f:Nat->V) (p:SqT K H a xs) (m:H L=none) (hz:xs.length<=900000) (t:st B)
 (step:∀ i x A c (R:V->L2.St->Hp->Prop),xs[i]?=some x->st A->aA H c->(∀ b k,st b->aA c k->R (f i) b k)->g x A c λb u=>te b u λv d=>R v b d)
 (q:∀ c,aA H c->c L=some (.lst ((List.range xs.length).map f))->Q (.ref L) c):bj (Itt K a) g yB te Q B H L:=by
 have y:1000000<sizeLine:=by decide
 refine bj.by (cq) (λi A e=>aA H e/\e L=some (.lst ((List.range i).map f))/\st A) ⟨smu m,pF,t⟩ (λi A e _ h=>h.1.seqT p) ?_ ?_
 · rintro i x A e l ⟨o,w,r⟩;have z:=(gES.mp l).1;simp only[fq,if_true];refine step i x A e (λv b d=>∃ j,d L=some (.lst j)/\j.length<sizeLine/\aA H (upd d L (.lst (j++[v])))/\upd d L (.lst (j++[v])) L=some (.lst ((List.range (i+1)).map f))/\st b) l r o λb k s n=>?_;refine⟨_,n _ _ w,?_,aK (o.trans n) m,?_,s⟩
   · grind
   · rw[pF,List.range_succ,List.map_append];rfl
 · grind
def i6 {α:Type} {ds:PDs} {k:PyData->α} {f:α->V}:((List.range ds.length).map λi=>f (k (ds[i]?.getD .none)))=(ds.map k).map f:=by
 apply List.ext_getElem?;intro i;rw[gEM,gEM,gEM];by_cases h:i<ds.length
 · grind
 · grind
end
def lh (h:fU d=true):∃ s n,d=.tuple [.str s,.int n]/\bD s=true:=by
 unfold fU at h;split at h
 · rename_i s n
   rw[Bool.and_eq_true] at h;obtain⟨i,rfl⟩:=cV h.2;exact⟨s,i,U,h.1⟩
 · cases h
def eI (h:fO d=true):∃ s n b,d=.tuple [.str s,.int n,b]/\iC s=true/\0<=n/\n<=4:=by
 unfold fO at h;split at h
 · rename_i s c b
   rw[Bool.and_eq_true] at h;cases c <;> first | (exfalso;simp[wIn] at h;done) | skip
   rename_i i
   have e:(decide (0<=i)&&decide (i<=4))=true:=h.2;rw[Bool.and_eq_true] at e;exact⟨s,i,b,U,h.1,of_decide_eq_true e.1,of_decide_eq_true e.2⟩
 · cases h
def zr:(["name","number"]:List Str).Nodup:=by left
def EZ:(["number","function"]:List Str).Nodup:=by left
section
variable {P:Program} {w:World} {K:Fg} {mg:SOV} {base:Heap}
abbrev sAo:Stmt:=top 27
abbrev nAo:List Str:=["opens","functions","names","numbers"]
def DR:aM nAo ["opens","functions"] (ad sAo):=fsM
inductive B6 (K:Fg) (vs:List V) (H:Hp) (Q:VK):Prop
  | mk (vo vf:V) (os fs:PDs) (h0:vs=[vo,vf]) (h1:BD K H vo (.tuple os)) (h2:BD K H vf (.tuple fs)) (h3:∀ f∈fs,fO f=true) (h4:wts os<=900000) (h5:os.length<60) (h6:fs.length<60) (q:∀ b H',aA H H'->(b=true↔(∀ d∈os,fU d=true)/\y8 os fs)->Q (.bl b) H'):B6 K vs H Q
def Dr (K:Fg):Sp:=λvs H Q _=>B6 K vs H Q
def EU (D:Def K mg "are_opens" sAo) (T:Blt K mg) (uX:Fn P w K mg base "is_open" 2 ["thing"] (spA fU K)):Fn P w K mg base "are_opens" 3 ["opens","functions"] (Dr K):=by
 refine D.fn DR ?P (λ_ _ _ _ _ _ us hl=>by obtain⟨a,b,rfl⟩:=f8 hl;rfl) ?X
 · obtain⟨vo,vf,k,fs,rfl,_⟩:=h;rfl
 · obtain⟨vo,vf,k,fs,rfl,ho,hf,JU,hw,hol,hfl,q⟩:=h;have nd:=DR.nd;have hu:=dN hr;have IL:(A.deeper (PyProof.Rows.envOfC "are_opens" (ad sAo) s.heap.objs.size f kb)).units+64<cLine:=by have:=hr.un;omega
   ext c
   refine⟨_,(pE (aE (aU (aQ (lI T.all (pA (cO (own:=["pair"]) (outs:=[]) U (aG.of (ad sAo) nAo) (cI ?C) (λ_ _ _ _=>⟨(ax (i:=0) (nd1 _) U ?D),bC,(aB uX ?S U (pA ?C pC))⟩)) pC)))) ?O am)
 (pE (iQ (i0:=2) (own:=["name","number"]) (outs:=[]) (g:=ph K 2 (fD (cP 0) (fD (cP 1) pi))) U (aG.of (ad sAo) nAo) (cI ?C) (λ_ _ _ _=>⟨(cv (n:=2) U (aF (ax (i:=0) zr U ?D (Or.inr U)) (aF (ax (i:=1) zr U ?D (Or.inr U)) bI))),bC,?C⟩) nd U U)
 (pE (aE (pP (nF IL) (pv 2) (FG T.sorted T.set (pv 2)) (pQ _)) ?O am)
 (pE (iQ (i0:=3) (own:=["number","function"]) (outs:=[]) (g:=ph K 2 (fD (cP 0) (fD (cP 1) pi))) (tc:=dA (tOp rEq (tOp (fN K) (cw 1) (tC (.int 0))) (tC (.str "open")))) U (aG.of (ad sAo) nAo) (l7 U T.enumerate (pA ?E pC)) (λ_ _ _ _=>⟨(cv (n:=2) U (aF (ax (i:=0) EZ U ?D (Or.inr U)) (aF (ax (i:=1) EZ U ?D (Or.inr U)) bI))),(bM (pP aZ (aj ae ?E pG ?H) pD (pQ _))),?C⟩) nd U U)
 (pH (ak (bL (BN IL) (mU T.sorted (pA (cO (own:=["name","number"]) (outs:=[]) (g:=ph K 2 (fD (cP 0) (fD (cP 1) pi))) U (aG.of (ad sAo) nAo) (cI ?C) (λ_ _ _ _=>⟨(cv (n:=2) U (aF (ax (i:=0) zr U ?D (Or.inr U)) (aF (ax (i:=1) zr U ?D (Or.inr U)) bI))),bC,?E⟩)) pC)) (pv 3) (pQ _)))))))),?_⟩
   ext b;obtain⟨a,xs,rfl,J,I⟩:=ho.tup_of;obtain⟨af,xf,rfl,Ir,IB⟩:=hf.tup_of;have hol':=cN k;refine ab λjP f9=>?_;rw[nz,ny,rR,ie,dq,bU];refine⟨_,U,a,U,⟨_,J⟩,λL hL=>?_⟩;refine pY (bT:=[]) fU J I hL ?A ?_ ?_
   · exact λx d H' R tx m s' r=>⟨_,U,x,d,U,tx,by have:=cM m;omega,r⟩
   refine λH1 s1 JE=>⟨L,_,U,JE,_,U,?_⟩;rw[all_map];cases e1:k.all fU with
   | false =>
    refine aJ (q false H1 s1 ⟨λz=>(by cases z),λz=>?_⟩);rw[List.all_eq_true.mpr z.1] at e1;cases e1
   | true =>
   have ho:=List.all_eq_true.mp e1;have hnm:∀ x∈k.map nmD,bD x=true:=λx IG=>by
    obtain⟨d,m,rfl⟩:=List.mem_map.mp IG;obtain⟨s,n,rfl,hn⟩:=lh (ho d m);exact hn
   have two:∀ {i:Nat} {x:V} {H':Hp},aA H H'->xs[i]?=some x->∃ (b:Addr) (s:Str) (n:Int),x=.ref b/\SqT K H' b [.str s,.int n]/\nmD (k[i]?.getD .none)=s/\nrD (k[i]?.getD .none)=n:=λs' IG=>by
    obtain⟨d,m,td⟩:=I.get IG;obtain⟨s,n,rfl,hn⟩:=lh (ho d (mGE m));obtain⟨b,us,rfl,W,e⟩:=td.tup_of;cases e with
    | cons t1 e =>
    cases e with
    | cons t2 e =>
    cases e;rw[t1.str_of,t2.int_of] at W;exact⟨b,s,n,U,s'.seqT W,by rw[m];rfl,by rw[m];rfl⟩
   refine aP (f9 _ _ (ab λjx fC=>?_));rw[dU,bU];refine⟨_,U,a,U,⟨_,s1.seqT J⟩,λN hN=>?_⟩;refine sZ (K:=K) (λσ=>∃ y z,σ=[y,z]) (λi=>V.str (nmD (k[i]?.getD .none))) (s1.seqT J) hN (by rw[I.length];omega) ⟨_,_,U⟩ ?_ ?_
   · rintro i x σ H' R Ih ⟨y,z,rfl⟩ s' r;obtain⟨b,s,n,rfl,W,e3,e4⟩:=two (s1.trans s') Ih;rw[e3] at r;exact⟨b,_,U,W,U,_,_,U,_,_,U,U,_,U,r _ _ ⟨_,_,U⟩ (aA.refl _)⟩
   intro H2 s2 F;rw[I.length,i6] at F;rw[aL];ext h;have s02:=s1.trans s2;refine⟨_,U,_,U,N,k.map nmD,U,SqL.of F,by rw[lMp];exact hol,λS v hS ynd yso B=>?_⟩;have k3:=smu (o:=HO.lst (v.map V.str)) hS;have hS3:(upd H2 S (.lst (v.map V.str))) S=some (.lst (v.map V.str)):=pF;generalize upd H2 S (.lst (v.map V.str))=H3 at k3 hS3 ⊢;have Iz:∀ x∈v,bD x=true:=λx IG=>hnm x ((B x).mp IG);have hns:=uf ynd yso B;refine⟨_,_,zR (SqL.of (k3 _ _ F)),zR (SqL.of hS3),shS hnm,shS Iz,_,U,?_⟩;rw[show PyData.eqv (.list ((k.map nmD).map .str)) (.list (v.map .str))=decide (k.map nmD=v) from Fh _ _];by_cases e2:k.map nmD=v
   case neg =>
    rw[decide_eq_false e2];exact aJ (q false H3 (s02.trans k3) ⟨λz=>(by cases z),λz=>absurd (hns.mpr ⟨z.2.nm,z.2.nd⟩) e2⟩)
   have Y:=hns.mp e2;rw[decide_eq_true e2];refine aP (gH _ _ (ab λoX iD=>?_));have u:=s02.trans k3;rw[dU,bU];refine⟨_,U,af,xf,U,u.seqT Ir,λM hM=>?_⟩;have k4:=smu (o:=HO.lst []) hM;refine bj.enumT (xs:=xf) (λi σ G=>aA H3 G/\G M=some (.lst ((opn 0 (fs.take i)).map V.int))/\∃ y z,σ=[y,z]) ⟨k4,pF,_,_,U⟩ (λi σ G _ h=>(u.trans h.1).seqT Ir) ?_ ?_
   · rintro i x σ G t Ih ⟨si,K8,y,z,rfl⟩ ht;obtain⟨d,m,td⟩:=IB.get Ih;obtain⟨s,n,b,rfl,hs,_⟩:=eI (JU d (mGE m));obtain⟨c,us,rfl,hc,e⟩:=td.tup_of;cases e with
     | cons t1 e =>
     rw[t1.str_of] at hc;have kt:=smu (o:=HO.tup [V.int ?J,V.ref c]) ht;ext o;have s5:=si.trans kt;have C:=kt _ _ K8;generalize upd G t (.tup [V.int ?J,V.ref c])=H5 at s5 C ⊢;refine⟨_,U,c,_,0,_,U,U,(u.trans s5).seqT hc,pI (j:=0) U,U,_,U,?_⟩;have l:=oU m;have eh:bu (.tuple [.str s,.int n,b])=s:=rfl;rw[eh] at l;by_cases e5:s="open"
     · rw[if_pos e5] at l;refine pK (by simp[e5]) ⟨_,U,_,C,?_,aK s5 hM,?_,_,_,U⟩
       · rw[lMp];have:=(lf (fs.take i) 0).2.2;rw[lTk] at this;omega
       · rw[pF,l,List.map_append];rfl
     · rw[if_neg e5,List.append_nil] at l;exact pJ (by simp[e5]) ⟨s5,by rw[l];exact C,_,_,U⟩
   · rintro σ G ⟨si,K8,y,z,rfl⟩;rw[IB.length,List.take_length] at K8;rw[aL];refine iD _ _ ?_;have p:=u.trans si;rw[gr,kU,ie,dq,bU];refine⟨_,U,a,U,⟨_,p.seqT J⟩,λUz hU=>?_⟩;refine sZ (K:=K) (λσ=>∃ y z,σ=[y,z]) (λi=>V.int (nrD (k[i]?.getD .none))) (p.seqT J) hU (by rw[I.length];omega) ⟨_,_,U⟩ ?_ ?_
     · rintro i x σ H' R Ih ⟨y,z,rfl⟩ s' r;obtain⟨b,s,n,rfl,W,e3,e4⟩:=two (p.trans s') Ih;rw[e4] at r;exact⟨b,_,U,W,U,_,_,U,_,_,U,U,_,U,r _ _ ⟨_,_,U⟩ (aA.refl _)⟩
     intro H6 s6 hU6;rw[I.length,i6] at hU6;refine⟨Uz,k.map nrD,U,SqL.of hU6,by rw[lMp];omega,λZ O hZ zp zso=>?_⟩;have k7:=smu (o:=HO.lst (O.map V.int)) hZ;have hZ7:(upd H6 Z (.lst (O.map V.int))) Z=some (.lst (O.map V.int)):=pF;generalize upd H6 Z (.lst (O.map V.int))=H7 at k7 hZ7 ⊢;have hM7:=k7 _ _ (s6 _ _ K8);refine⟨_,U,_,_,zS (SqL.of hZ7),zS (SqL.of hM7),shI _,shI _,?_⟩;rw[show PyData.eqv (.list (O.map .int)) (.list ((opn 0 fs).map .int))=decide (O=opn 0 fs) from Ci _ _];refine q _ H7 ((p.trans s6).trans k7) ⟨λz=>⟨ho,Y.1,Y.2,?_⟩,λz=>decide_eq_true ?_⟩
     · rw[<- of_decide_eq_true z];exact zp.symm
     · exact oS zso (lf fs 0).1 (zp.trans z.2.nr)
end
structure gA (fs rs os:PDs):Prop where
  few:fs.length+rs.length<=40
  fn:∀ f∈fs,fO f=true
  rc:∀ r∈rs,wIn 1 4 r=true
  op:∀ o∈os,fU o=true
  ops:y8 os fs
def dJ {l:PDs}:l.all f=true↔∀ x∈l,f x=true:=List.all_eq_true
section
variable {P:Program} {w:World} {K:Fg} {mg:SOV} {base:Heap}
def gD (h:BD K H v (.tuple [a,b,c])):∃ t x y z,v=.ref t/\SqT K H t [x,y,z]/\BD K H x a/\BD K H y b/\BD K H z c:=by
 obtain⟨t,j,rfl,e,d⟩:=h.tup_of;cases d with
 | cons g d =>
 cases d with
 | cons i d =>
 cases d with
 | cons f d =>
 cases d;exact⟨t,_,_,_,U,e,g,i,f⟩
abbrev sFr:Stmt:=top 28
abbrev nFr:List Str:=["thing","functions","records","opens"]
def DK:aM nFr ["thing"] (ad sFr):=fsM
inductive AZ (K:Fg) (vs:List V) (H:Hp) (Q:VK):Prop
  | mk (v:V) (d:PyData) (h0:vs=[v]) (h1:BD K H v d) (h2:wt d<=900000) (h3:∀ a b os,d=.tuple [a,b,.tuple os]->os.length<60) (q:∀ b H',aA H H'->(b=true↔∃ fs rs os,d=.tuple [.tuple fs,.tuple rs,.tuple os]/\gA fs rs os)->Q (.bl b) H'):AZ K vs H Q
def yN (K:Fg):Sp:=λvs H Q _=>AZ K vs H Q
def EG (D:Def K mg "is_frame" sFr) (T:Blt K mg) (C:Glb P w K mg) (dn:Fn P w K mg base "is_tuple_of" 1 ["thing","many"] (yK K)) (m8:Fn P w K mg base "is_function" 3 ["thing"] (spA fO K)) (cn:Fn P w K mg base "is_whole_within" 2 ["thing","least","most"] (lK K)) (qk:Fn P w K mg base "are_opens" 3 ["opens","functions"] (Dr K)):Fn P w K mg base "is_frame" 4 ["thing"] (yN K):=by
 refine D.fn DK ?P (λ_ _ _ _ _ _ us hl=>by obtain⟨a,rfl⟩:=dM hl;rfl) (λf kb A outer s H vs Q E M h=>?_)
 · ext j
 · obtain⟨v,d,rfl,hv,hw,I,q⟩:=h;have nd:=DK.nd;obtain⟨tf,gf⟩:=C.fields;obtain⟨tm,gm⟩:=C.forms;refine⟨_,(pE (aE (PW.pt (bF (aU (aQ (aB dn (M.mono ?G) U (pA ?C (pA pG pC))))) (bJ (aU (aQ (lI T.all (pA (cO (own:=["part"]) (outs:=[]) (te:=tCB (yY K) (gE (cw 0) (gE (tC (.ty "tuple")) lJ))) U (aG.of (ad sFr) nFr) (cI ?C) (λ_ _ _ _=>⟨(ax (i:=0) (nd1 _) U ?D),bC,(bO T.isinstance (pA ?C (pA (ba (v:=.ty "tuple") U T.tuple bG U) pC)))⟩)) pC))))))) ?O am)
 (pE (gL ?C (cv U (aF (ax (i:=1) nd U ?D) (aF (ax (i:=2) nd U ?D) (aF (ax (i:=3) nd U ?D) bI)))))
 (pE (aE (pP ig (aT bY (bq T.len (pA ?E pC)) (bq T.len (pA (pv 2) pC))) (cD (v:=.int 40) U gm ⟨_,U⟩) (pQ _)) ?O am)
 (pE (aE (aU (aQ (lI T.all (pA (cO (own:=["function"]) (outs:=[]) U (aG.of (ad sFr) nFr) (cI ?E) (λ_ _ _ _=>⟨(ax (i:=0) (nd1 _) U ?D),bC,(aB m8 (M.mono ?G) U (pA ?C pC))⟩)) pC)))) ?O am)
 (pE (aE (aU (aQ (lI T.all (pA (cO (own:=["count"]) (outs:=[]) U (aG.of (ad sFr) nFr) (cI (pv 2)) (λ_ _ _ _=>⟨(ax (i:=0) (nd1 _) U ?D),bC,(aB cn (M.mono ?G) U (pA ?C (pA pG (pA (cD (v:=.int 4) U gf ⟨_,U⟩) pC))))⟩)) pC)))) ?O am)
 (pH (ak (aB qk (M.mono ?G) U (pA (pv 3) (pA ?E pC)))))))))),?_⟩
   ext b;refine ab λjP f9=>?_;refine⟨_,U,v,d,3,U,hv,_,U,?_⟩;cases e:mZ 3 d with
   | false =>
    refine aJ (aJ (q false H (aA.refl H) ⟨λz=>(by cases z),λz=>?_⟩));obtain⟨fs,j,n,rfl,_⟩:=z;cases e
   | true =>
   obtain⟨l,rfl,hl⟩:=mY (k:=3) e;obtain⟨Y,d1,d2,rfl⟩:=gG hl;obtain⟨a,x,y,z,rfl,ha,hx,hy,hz⟩:=gD hv;have hw':=hw;rw[aC,wts,wts,wts,wts] at hw;refine aP ?_;rw[ny,rR,ie,dq,bU];refine⟨_,U,a,U,⟨_,ha⟩,λL hL=>?_⟩;refine pY (bT:=[]) (ds:=[Y,d1,d2]) isT ha (.cons hx (.cons hy (.cons hz .nil))) hL (by show 3<=900000;omega) ?_ ?_
   · exact λx d t R F W O r=>⟨_,U,x,d,_,U,F,iB,T.kit,by rw[lq];exact r t (aA.refl _)⟩
   refine λH1 f JE=>⟨L,_,U,JE,_,U,?_⟩;rw[all_map];cases e1:[Y,d1,d2].all isT with
   | false =>
    refine aJ (q false H1 f ⟨λz=>(by cases z),λz=>?_⟩);obtain⟨fs,j,n,p,_⟩:=z;cases p;cases e1
   | true =>
   have m:=dJ.mp e1;obtain⟨fs,rfl⟩:=fA (m Y ?B);obtain⟨j,rfl⟩:=fA (m d1 ?B);obtain⟨n,rfl⟩:=fA (m d2 ?B);rw[aC,aC,aC] at hw;obtain⟨af,xf,rfl,N,Z⟩:=hx.tup_of;obtain⟨ar,xr,rfl,IS,IP⟩:=hy.tup_of;have no:∀ {A:Prop},(gA fs j n->False)->(false=true↔∃ G B J,PyData.tuple [.tuple fs,.tuple j,.tuple n]=.tuple [.tuple G,.tuple B,.tuple J]/\gA G B J):=λh=>⟨λz=>(by cases z),λz=>by
     obtain⟨_,_,_,p,S⟩:=z;cases p;exact (h S).elim⟩
   refine aP (f9 _ _ (ab λjx fC=>?_));refine⟨_,U,a,_,U,f.seqT ha,U,_,_,U,_,_,U,_,_,U,U,?_⟩;ext h;refine⟨_,U,af,_,U,.inr (f.seqT N),_,U,ar,_,U,.inr (f.seqT IS),_,_,U,U,_,_,U,U,_,U,?_⟩;rw[Z.length,IP.length];by_cases o:fs.length+j.length<=40
   case neg=>exact pK ?Q (q false H1 f (no (A:=True) λz=>o z.few))
   refine pJ ?Q (gH _ _ (ab λoX iD=>?_));rw[nz,ny,rR,ie,dq,bU];refine⟨_,U,af,U,⟨_,f.seqT N⟩,λL2 hL2=>?_⟩;refine pY (bT:=[]) fO (f.seqT N) (Z.same f) hL2 ?A ?_ ?_
   · exact λx d t R F W O r=>⟨_,U,x,d,U,F,by have:=cM W;omega,r⟩
   refine λH2 s2 hL3=>⟨L2,_,U,hL3,_,U,?_⟩;rw[all_map];have c:=f.trans s2;cases e2:fs.all fO with
   | false=>exact aJ (q false H2 c (no (A:=True) λz=>by rw[dJ.mpr z.fn] at e2;cases e2))
   | true =>
   have u:=dJ.mp e2;refine aP (iD _ _ (ab λsv jj=>?_));rw[nz,ny,rR,ie,dq,bU];refine⟨_,U,ar,U,⟨_,c.seqT IS⟩,λL3 hL4=>?_⟩;refine pY (bT:=[]) (wIn 1 4) (c.seqT IS) (IP.same c) hL4 ?A ?_ ?_
   · exact λx d t R F W O r=>⟨_,U,x,d,1,4,U,F,by have:=cM W;omega,r⟩
   refine λH3 s3 hL5=>⟨L3,_,U,hL5,_,U,?_⟩;rw[all_map];have g:=c.trans s3;cases e3:j.all (wIn 1 4) with
   | false=>exact aJ (q false H3 g (no (A:=True) λz=>by rw[dJ.mpr z.rc] at e3;cases e3))
   | true =>
   have e3':=dJ.mp e3;refine aP (jj _ _ ?_);refine⟨_,U,_,U,z,.ref af,n,fs,U,hz.same g,(BD.tup N Z).same g,u,by omega,I _ _ _ U,by omega,λb t O hb=>q b t (g.trans O) ⟨λhbt=>?_,λhz'=>hb.mpr ?_⟩⟩
   · obtain⟨h1,h2⟩:=hb.mp hbt;exact⟨fs,j,n,U,o,u,e3',h1,h2⟩
   · obtain⟨_,_,_,p,S⟩:=hz';cases p;exact⟨S.op,S.ops⟩
end
def eU (h:cB d=true):∃ (b:Str) (sl:List Str) (ps:PDs),d=.tuple (.str b::ps)/\(b,sl)∈tbl/\lkT tbl b=some sl/\ps.length=sl.length/\∀ (i:Nat) (s:Str) (p:PyData),sl[i]?=some s->ps[i]?=some p->cf s p=true:=by
 unfold cB at h;split at h
 · rename_i b ps
   split at h
   · cases h
   · rename_i sl e
     rw[Bool.and_eq_true] at h;refine⟨b,sl,ps,U,fJ e,e,of_decide_eq_true h.1,λi s p g f=>?_⟩;refine List.all_eq_true.mp h.2 (cf s p) (mGE (i:=i) ?_);rw[List.getElem?_zipWith,g,f]
 · cases h
def yA (h:(k,sl)∈tbl):sl.length<=3:=by
 have:∀ p∈tbl,p.2.length<=3:=by left
 exact this _ h
def qS {sl:List Str} {ps:PDs} (b:sl[i]?=some s) (a:ps[i]?=some p):eQ (sl.take (i+1)) (ps.take (i+1))=eQ (sl.take i) (ps.take i)++iz s p:=by
 unfold eQ;have d:=(gES.mp b).1;have c:=(gES.mp a).1;rw[tAO,tAO,b,a];rw[List.zipWith_append (by rw[lTk,lTk];omega),List.flatten_append];simp
def wN (i:Nat):(eQ (sl.take i) (ps.take i)).length<=(eQ sl ps).length:=by
 unfold eQ;have e:List.zipWith iz (sl.take i) (ps.take i)=(List.zipWith iz sl ps).take i:=by rw[List.take_zipWith]
 rw[e];have:=congrArg (λl=>(List.flatten l).length) (List.take_append_drop i (List.zipWith iz sl ps));simp only[List.flatten_append,lAp] at this;omega
def eK {K:Fg} {xs ys:PDs} (j:BD K H (.ref a) (.tuple xs)) (i:BD K H (.ref b) (.tuple ys)) (hz:xs.length+ys.length<=100000)
 (q:∀ p c,aA H c->BD K c (.ref p) (.tuple (xs++ys))->Q (.ref p) c):w9 K (.ref a) (.ref b) H Q:=by
 obtain⟨w,g,e,t,n⟩:=j.tup_of;cases e;obtain⟨v,l,e,u,f⟩:=i.tup_of;cases e;have x:100000<sizeLine:=by decide
 have m:=n.length;have h:=f.length;refine⟨a,b,g,l,U,U,t,u,by omega,λe=>?_,λ_ e=>?_,λ_ _ p r=>?_⟩
 · have:xs=[]:=by rw[e] at m;exact List.eq_nil_of_length_eq_zero m.symm
   rw[this,List.nil_append] at q;exact q b H (aA.refl H) i
 · have:ys=[]:=by rw[e] at h;exact List.eq_nil_of_length_eq_zero h.symm
   rw[this,List.append_nil] at q;exact q a H (aA.refl H) j
 · have k:=smu (o:=HO.tup (g++l)) r;exact q p _ k (.tup (SqT.of pF) ((n.same k).app (f.same k)))
section
variable {P:Program} {w:World} {K:Fg} {mg:SOV} {base:Heap}
abbrev sCh:Stmt:=top 30
inductive B2 (K:Fg) (vs:List V) (H:Hp) (Q:VK):Prop
  | mk (v:V) (d:PyData) (Iy:vs=[v]) (Ik:BD K H v d) (IZ:cB d=true) (g4_:wt d<=90000) (Jn:∀ v' H',aA H H'->BD K H' v' (.tuple (bw d))->Q v' H'):B2 K vs H Q
def Bp (K:Fg):Sp:=λvs H Q _=>B2 K vs H Q
def DP:aM ["e","children","slot","part"] ["e"] (ad sCh):=fsM
def EN (D:Def K mg "children_of" sCh) (T:Blt K mg) (C:Glb P w K mg):Fn P w K mg base "children_of" 1 ["e"] (Bp K):=by
 refine D.fn DP ?P (λ_ _ _ _ _ _ us hl=>by obtain⟨a,rfl⟩:=dM hl;rfl) (λf kb A outer S H vs Q E hr h=>?_)
 · ext j
 · obtain⟨v,d,rfl,td,hex,J7,q⟩:=h;obtain⟨n,s,k,rfl,hm,HZ,hpl,M⟩:=eU hex;have ekd:bw (.tuple (.str n::k))=eQ s k:=by
    show eQ ((lkT tbl n).getD []) k=_;rw[HZ];rfl
   rw[ekd] at q;have hfew:(eQ s k).length<=90000:=by
    have W:=(sG s k).1;have h2:=cN (eQ s k);rw[aC,wts] at J7;omega
   obtain⟨a,xs,rfl,ha,hx⟩:=td.tup_of;obtain⟨aS,kvs,gS,hS,hkv,_⟩:=C.slots;obtain⟨r,JF,IU⟩:=hkv n s hm;have G:=DP.nd;have tl:=yA hm;have hfl:=hpl.symm;obtain⟨x0,u,rfl,Jv,IP⟩:∃ x0 u,xs=x0::u/\BD K H x0 (.str n)/\BDs K H u k:=by
    cases hx with
    | cons p q=>exact⟨_,_,U,p,q⟩
   obtain rfl:=Jv.str_of;have hxl:=IP.length;ext c
   refine⟨_,(pE (pN (i:=1) G U ?D (aN pC))
 (pE (cu PassesOwn.never U (sf U T.zip (pA (nC (cD (v:=.ref aS) U gS U) ?I ?H) (pA (cF qz ?C (cC pG) dE) pC))) (cv U (aF (ax (i:=2) G U ?D) (aF (ax (i:=3) G U ?D) bI)))
 (pH (aE (pP aZ (pv 2) pD (pQ _)) (pH (qE (i:=1) G U ?D (aN (pA (pv 3) pC)) (sJ))) (pH (aE (pP aZ (pv 2) pD (pQ _)) (pH (qE (i:=1) G U ?D (fg T.tuple (pA (pv 3) pC)) (sJ))) am)))))
 (pH (ak ?E)))),?_⟩
   ext b;refine⟨jl,λc hc=>?_⟩;have L:=smu (o:=HO.tup []) hc;have dc:BD K (upd H c (.tup [])) (.ref c) (.tuple []):=.tup (SqT.of pF) .nil;generalize upd H c (.tup [])=H1 at L dc ⊢;refine⟨_,U,a,_,0,.str n,U,U,L.seqT ha,pI (j:=0) U,aS,kvs,.inr n,.ref r,U,hS,U,JF,_,U,_,U,a,_,U,L.seqT ha,?_,λp2 Jw=>?_⟩
   · unfold HT.sIx;simp
   · rw[show (some (1:Int))=some (((1:Nat):Nat):Int) from rfl,lB];have Z:=smu (o:=HO.tup ((V.str n::u).drop 1)) Jw;have Jb:(upd H1 p2 (.tup ((V.str n::u).drop 1))) p2=some (.tup u):=pF;generalize upd H1 p2 (.tup ((V.str n::u).drop 1))=H2 at Z Jb ⊢;refine⟨r,p2,_,_,U,IU _,SqT.of Jb,?_⟩;show aV _ _ _ _ _ _;refine aV.zipTN (xs:=s.map V.str) (ys:=u) (by rw[lMp];omega) (λi σ F=>aA H2 F/\∃ b x2 x3,σ=[some (.ref a),some (.ref b),x2,x3]/\BD K F (.ref b) (.tuple (eQ (s.take i) (k.take i))))
      ⟨aA.refl _,c,_,_,U,dc.same Z⟩ ?_ ?_ ?_
     · rintro i σ F _ ⟨B,_⟩;exact⟨IU _,SqT.of (B _ _ Jb)⟩
     · rintro i x y σ F t N_ B_ z Ih JM ⟨B,b,x2,x3,rfl,Y⟩ ht;rw[gEM] at Ih;obtain⟨f,J,rfl⟩:=oMS.mp Ih;obtain⟨d,Ji,htd⟩:=IP.get JM;have hsh:=M i f d J Ji;have O:=smu (o:=HO.tup [V.str f,y]) ht;have R:=htd.same (L.trans (Z.trans (B.trans O)));have m:=Y.same O;have I:=qS J Ji;have g:=wN (sl:=s) (ps:=k) (i+1);ext o;have N:=B.trans O;generalize upd F t (.tup [V.str f,y])=H3 at O R m N ⊢;refine ?T;by_cases W:f="one"
       · subst W;refine pK ?B ?_;refine⟨_,U,_,U,v3,λu hu=>?_⟩;have k4:=smu (o:=HO.tup [y]) hu;rw[I] at g;refine eK (m.same k4) (ys:=[d]) (.tup (SqT.of pF) (.cons (R.same k4) .nil)) (by simp[iz] at g ⊢;omega) λp H' S dp=>?_;exact z _ _ ⟨N.trans (k4.trans S),p,_,_,U,by rw[I];exact dp⟩
       · refine pJ (by simpa using W) ?_;refine ?T;by_cases h2:f="many"
         · subst h2;obtain⟨l,rfl⟩:=fA (show isT d=true from hsh);refine pK ?B ?_;obtain⟨ay,xy,rfl,hay,hxy⟩:=R.tup_of;refine⟨_,U,_,U,ay,xy,U,.inr ⟨hay,?_⟩⟩;rw[I] at g;refine eK m (ys:=l) R (by rw[lAp] at g;show _+l.length<=_;have e:(iz "many" (PyData.tuple l))=l:=rfl;rw[e] at g;omega) λp H' S dp=>?_;exact z _ _ ⟨N.trans S,p,_,_,U,by rw[I];exact dp⟩
         · refine pJ (by simpa using h2) ?_;have e:iz f d=[]:=by unfold iz;rw[if_neg W,if_neg h2]
           exact z _ _ ⟨N,b,_,_,U,by rw[I,e,List.append_nil];exact m⟩
     · rintro σ F ⟨B,b,x2,x3,rfl,Y⟩;rw[lMp,List.take_length,hfl,List.take_length] at Y;exact⟨_,U,q _ _ (L.trans (Z.trans B)) Y⟩
end
def F3 (m:(h,sl)∈tbl) (e:h∈lve):sl=(["bound","one","one"]:List Str):=by
 have:∀ p∈tbl,p.1∈lve->p.2=(["bound","one","one"]:List Str):=by left
 exact this _ m e
def Fd (m:(("fun":Str),sl)∈tbl):sl=(["bounds","one"]:List Str):=by
 have:∀ p∈tbl,p.1="fun"->p.2=(["bounds","one"]:List Str):=by left
 exact this _ m U
def qy (h:cf "bound" d=true):∃ i,d=.int i:=cV h
def jO (h:cf "bounds" d=true):∃ l,d=.tuple l/\l.length<=4/\∀ x∈l,∃ i,x=.int i:=by
 replace h:ik d=true:=h;cases d <;> first | cases h | skip
 rename_i l
 have a:(decide (l.length<=4)&&l.all isW)=true:=h;rw[Bool.and_eq_true] at a;exact⟨l,U,of_decide_eq_true a.1,λx b=>cV (List.all_eq_true.mp a.2 x b)⟩
def tu (h:cB d=true):(cZ d).length<=4/\cZ d=((cZ d).map aY).map .int:=by
 obtain⟨c,u,k,rfl,g,s,a,b⟩:=eU h;by_cases f:c∈lve
 · obtain rfl:=F3 g f;obtain⟨p,q,r,rfl⟩:=gG a;obtain⟨i,rfl⟩:=qy (b 0 "bound" p rfl rfl);have e:cZ (.tuple [.str c,.int i,q,r])=[.int i]:=if_pos f;rw[e];exact⟨by show 1<=4;decide,U⟩
 · by_cases m:c="fun"
   · subst m;obtain rfl:=Fd g;obtain⟨p,q,rfl⟩:=f8 a;obtain⟨l,rfl,j,n⟩:=jO (b 0 "bounds" p rfl rfl);have e:cZ (.tuple [.str "fun",.tuple l,q])=l:=by
      show (if ("fun":Str)∈lve then [PyData.tuple l] else if ("fun":Str)="fun" then l else [])=l;rw[if_neg f,if_pos U]
     rw[e];refine⟨j,?_⟩;clear e b a s g h j
     induction l with
     | nil=>rfl
     | cons x r o =>
      obtain⟨i,rfl⟩:=n x (mCS ..);show PyData.int i::r=PyData.int i::((r.map aY).map .int);rw[<- o λy t=>n y (mCM _ t)]
   · have e:cZ (.tuple (.str c::k))=[]:=by
      cases k with
      | nil=>rfl
      | cons p r =>
       show (if c∈lve then [p] else if c="fun" then items p else [])=[];rw[if_neg f,if_neg m]
     rw[e];exact⟨Nat.zero_le _,U⟩
section
variable {P:Program} {w:World} {K:Fg} {C:SOV} {base:Heap}
abbrev sBb:Stmt:=top 31
inductive B5 (K:Fg) (vs:List V) (H:Hp) (Q:VK):Prop
  | mk (v:V) (d:PyData) (Iy:vs=[v]) (Ik:BD K H v d) (IZ:cB d=true) (Jn:∀ v' H',aA H H'->BD K H' v' (.tuple (cZ d))->Q v' H'):B5 K vs H Q
def Bq (K:Fg):Sp:=λvs H Q _=>B5 K vs H Q
def Gc:aM ["e"] ["e"] (ad sBb):=fsM
def Ca:(lve.any λy=>y==h)=decide (h∈lve):=by grind
def ET (D:Def K C "bound_by" sBb) (T:Blt K C):Fn P w K C base "bound_by" 1 ["e"] (Bq K):=by
 refine D.fn Gc ?P (λ_ _ _ _ _ _ us hl=>by obtain⟨a,rfl⟩:=dM hl;rfl) (λf kb A I s' H vs Q E hr h=>?_)
 · ext j
 · obtain⟨v,d,rfl,td,L,q⟩:=h;obtain⟨f,sl,u,rfl,S,HZ,n,z⟩:=eU L;obtain⟨a,xs,rfl,N,Z⟩:=td.tup_of;obtain⟨F,M,rfl,Jv,IP⟩:∃ F M,xs=F::M/\BD K H F (.str f)/\BDs K H M u:=by
    cases Z with
    | cons p q=>exact⟨_,_,U,p,q⟩
   obtain rfl:=Jv.str_of;have k:∀ {x:V} {r:List V},atI (x::r) 0=some x:=λ{x r}=>pI rfl;have Y:∀ {x y:V} {r:List V},atI (x::y::r) 1=some y:=λ{x y r}=>pI rfl;refine⟨_,(pE (aE (pP fj ?I (@aN _ _ _ _ _ (@pA _ _ _ _ _ pD (@pA _ _ _ _ _ pD (@pA _ _ _ _ _ pD pC ?K) ?K) ?K)) (by with_unfolding_all rfl)) (pH (ak (aN (pA ?I pC)))) am)
 (pH (ak (l8 (pP aZ ?I pD (pQ _)) (fg T.tuple (pA ?I pC)) (aN pC))))),?_⟩
   ext b;refine⟨_,U,a,_,0,.str f,U,U,N,k,ma,λt1 Ie=>?_⟩;have i:=smu (o:=HO.tup (lve.map V.str)) Ie;refine⟨t1,lve.map V.str,U,.inr (SqT.of pF),U,dB _,_,U,?_⟩;rw[eT,Ca];have g1:upd H t1 (.tup [V.str "let",V.str "var",V.str "each"])=upd H t1 (.tup (lve.map V.str)):=rfl;rw[g1];generalize upd H t1 (.tup (lve.map V.str))=H1 at i ⊢;have g:=i.seqT N;have b:=IP.same i;by_cases j:f∈lve
   · refine pK (decide_eq_true j) ?_;obtain rfl:=F3 S j;obtain⟨p,B,r,rfl⟩:=gG n;cases b with
     | @cons s _ yr _ t0 b =>
     have m:cZ (.tuple [.str f,p,B,r])=[p]:=if_pos j;rw[m] at q;refine⟨_,U,a,_,1,s,U,U,g,Y,v3,λu t=>?_⟩;have O:=smu (o:=HO.tup [s]) t;exact q _ _ (i.trans O) (.tup (SqT.of pF) (.cons (t0.same O) .nil))
   refine pJ (by simpa using j) ?_;refine⟨_,U,a,_,0,.str f,U,U,g,k,U,_,U,?_⟩;by_cases G:f="fun"
   · subst G;refine pK ?B ?_;obtain rfl:=Fd S;obtain⟨p,B,rfl⟩:=f8 n;obtain⟨l,rfl,_,_⟩:=jO (z 0 "bounds" p rfl rfl);cases b with
     | @cons s _ yr _ t0 b =>
     obtain⟨c,zs,rfl,R,hz⟩:=t0.tup_of;have m:cZ (.tuple [.str "fun",.tuple l,B])=l:=by
      show (if ("fun":Str)∈lve then [PyData.tuple l] else if ("fun":Str)="fun" then l else [])=l;rw[if_neg j,if_pos U]
     rw[m] at q;exact⟨_,U,a,_,1,_,U,U,g,Y,c,zs,U,.inr ⟨R,q _ _ i (.tup R hz)⟩⟩
   · refine pJ (by simpa using G) ?_;have m:cZ (.tuple (.str f::u))=[]:=by
      cases u with
      | nil=>rfl
      | cons p r =>
       show (if f∈lve then [p] else if f="fun" then items p else [])=[];rw[if_neg j,if_neg G]
     rw[m] at q;refine⟨jl,λu t=>?_⟩;exact q _ _ (i.trans (smu t)) (.tup (SqT.of pF) .nil)
end
def cU:Nat->PyData->PDs
  | 0,_=>[]
  | f+1,d=>d::(bw d).flatMap (cU f)
def WFx:Nat->PyData->Prop
  | 0,_=>False
  | f+1,d=>cB d=true/\∀ x∈bw d,WFx f x
def xb {f:PyData->PDs}:∀ {l:PDs},(∀ x∈l,(f x).length<=wt x)->(l.flatMap f).length<=wts l:=by
 intro l
 induction l with
 | nil=>intro _;rw[wts];exact Nat.le_refl _
 | cons x r a =>
  intro h;rw[List.flatMap_cons,lAp,wts];have:=h x (mCS ..);have:=a λy b=>h y (mCM _ b);omega
def nA:∀ {f:Nat} {d:PyData},WFx f d->(cU f d).length<=wt d:=by
 intro f
 induction f with
 | zero=>intro d h;exact h.elim
 | succ f b =>
  intro d h;have e:=xb (f:=cU f) λx a=>b (h.2 x a);have c:=(jA d).1;show ((bw d).flatMap (cU f)).length+1<=_;omega
def z7 (h:WFx f d):1<=(cU f d).length:=by
 cases f with
 | zero=>exact h.elim
 | succ f=>exact Nat.succ_le_succ (Nat.zero_le _)
def stk (l:List (Nat×PyData)):PDs:=l.reverse.flatMap λp=>cU p.1 p.2
def vA (p:Nat×PyData) (l:List (Nat×PyData)):stk (p::l)=stk l++cU p.1 p.2:=by
 unfold stk;rw[List.reverse_cons,List.flatMap_append,List.flatMap_cons,List.flatMap_nil,List.append_nil]
def yJ (h:∀ p∈l,WFx p.1 p.2):l.length<=(stk l).length:=by
 induction l with
 | nil=>exact Nat.zero_le _
 | cons p l a =>
  have d:=a λq b=>h q (mCM _ b);have c:=z7 (h p mCS);rw[vA,lAp,List.length_cons];omega
def yI (l:List (Nat×PyData)) (m:Nat) (e:PyData):stk (l++[(m+1,e)])=e::stk (l++((bw e).map λx=>(m,x)).reverse):=by
 unfold stk;rw[List.reverse_append,List.reverse_append,List.reverse_reverse,List.flatMap_append,List.flatMap_append,List.flatMap_map];show (cU (m+1) e++[])++_=_;rw[List.append_nil];rfl
def BDs.rev {K:Fg} (h:BDs K H xs ds):BDs K H xs.reverse ds.reverse:=by
 induction xs generalizing ds with
 | nil=>cases h;exact .nil
 | cons x r c =>
  cases h with
  | cons a b =>
   rw[List.reverse_cons,List.reverse_cons];exact (c b).snoc a
def BDs.last {K:Fg} (h:BDs K H xs (ds++[d])):∃ c y,xs=c++[y]/\BDs K H c ds/\BD K H y d:=by
 induction ds generalizing xs with
 | nil=>cases h with | cons a b=>cases b;exact⟨[],_,U,.nil,a⟩
 | cons e r f =>
  cases h with
  | cons a b =>
   obtain⟨c,y,rfl,p,q⟩:=f b;exact⟨_::c,y,U,.cons a p,q⟩
section
variable {P:Program} {w:World} {K:Fg} {mg:SOV} {base:Heap}
abbrev sWk:Stmt:=top 32
inductive AG (K:Fg) (vs:List V) (H:Hp) (Q:VK):Prop
  | mk (v:V) (d:PyData) (n:Nat) (Iy:vs=[v]) (Ik:BD K H v d) (IZ:WFx n d) (Jn:wt d<=90000) (g4_:∀ L H' zs,aA H H'->H L=none->H' L=some (.lst zs)->BDs K H' zs (cU n d)->Q (.ref L) H'):AG K vs H Q
def D3 (K:Fg):Sp:=λvs H Q _=>AG K vs H Q
def Dt:aM ["e","met","waiting","node"] ["e"] (ad sWk):=fsM
def Ee (D:Def K mg "walked" sWk) (fQ:Fn P w K mg base "children_of" 1 ["e"] (Bp K)):Fn P w K mg base "walked" 2 ["e"] (D3 K):=by
 refine D.fn Dt ?P (λ_ _ _ _ _ _ us hl=>by obtain⟨a,rfl⟩:=dM hl;rfl) (λf kb A outer s' H vs Q E hr h=>?_)
 · obtain⟨v,d,n,rfl,_⟩:=h;rfl
 · obtain⟨v,d,n,rfl,td,wf,hsz,q⟩:=h;have nd:=Dt.nd;ext c
   have hsz0:=nA wf;have hsz1:(cU n d).length<=90000:=by omega
   refine⟨_,(pE (pN (i:=1) nd U ?D (bb pC))
 (pE (pN (i:=2) nd U ?D (bb (pA ?C pC)))
 (pE (l4 PassesOwn.never (gK (pv 2) (by intro _;rfl))
 (pE (pN (i:=3) nd U ?D (rp (pv 2)))
 (pE (cY (dL ?E (pA (pv 3) pC)))
 (pH (cY (CB (pv 2) (pA (zd (aB fQ ?S U (pA (pv 3) pC)) (cC (iT g9 pG))) pC)))))))
 (pH (ak ?E))))),?_⟩
   ext b;refine ab λjP f9=>?_;refine⟨jl,λM hM=>?_⟩;refine f9 _ _ (ab λjx fC=>?_);have k1:=smu (o:=HO.lst []) hM;have S:(upd H M (.lst [])) M=some (.lst []):=pF;generalize upd H M (.lst [])=H1 at k1 S ⊢;refine⟨_,U,v3,λW hW=>?_⟩;have k2:=smu (o:=HO.lst [v]) hW;have hW2:(upd H1 W (.lst [v])) W=some (.lst [v]):=pF;have MW:M≠W:=λe=>by rw[<- e,S] at hW;cases hW
   have hM2:=k2 _ _ S;have hWH:H W=none:=by
    cases hh:H W with
    | none=>rfl
    | some o=>rw[k1 _ _ hh] at hW;cases hW
   ext h;generalize upd H1 W (.lst [v])=H2 at k2 hW2 hM2 ⊢;have kk:=k1.trans k2;refine oD (λσ g=>aA H g/\∃ (f Y:List V) (r:PDs) (l:List (Nat×PyData)) (x3:Option V),σ=[some v,some (.ref M),some (.ref W),x3]/\g M=some (.lst f)/\g W=some (.lst Y)/\BDs K g f r/\BDs K g Y (l.map (·.2))/\(∀ p∈l,WFx p.1 p.2)/\(∀ p∈l,wt p.2<=90000)/\r++stk l=cU n d)
    (λ_ g=>match g M with | some (.lst f)=>900001-f.length | _=>0)
    ⟨kk,[],[v],[],[(n,d)],_,U,hM2,hW2,.nil,.cons (td.same kk) .nil,λp hp=>by rw[mSg.mp hp];exact wf,λp hp=>by rw[mSg.mp hp];exact hsz,by unfold stk;simp⟩ ?_
   rintro σ g ⟨sm,f,Y,r,l,x3,rfl,K8,Jr,j,Z,s,R,Ja⟩;refine⟨_,U,_,.inl ⟨Y,SqL.of Jr,U⟩,?_⟩
   rcases List.eq_nil_or_concat l with rfl | ⟨l',p,rfl⟩
   · cases Z;refine pJ ?G ?_;have e0:r=cU n d:=by rw[<- Ja];simp[stk]
     rw[e0] at j;exact gH _ _ ⟨_,U,q M g f sm hM K8 j⟩
   · obtain⟨m,e⟩:=p;rw[List.concat_eq_append,List.map_append] at Z;rw[List.concat_eq_append] at s R Ja;obtain⟨b,y,rfl,C,hy⟩:=BDs.last Z;have hwe:WFx m e:=s (m,e) (List.mem_append_right _ (mSg.mpr U));obtain⟨m,rfl⟩:∃ m',m=m'+1:=by
      cases m with
      | zero=>exact hwe.elim
      | succ m=>exact⟨m,U⟩
     obtain⟨nde,hk⟩:=hwe;have hsl:=yJ s;have hwte:wt e<=90000:=by
      have:=R (m+1,e) (List.mem_append_right _ (mSg.mpr U));exact this
     have hsl2:=congrArg List.length Ja;have hwl:=C.length;rw[lMp] at hwl;rw[lAp] at hsl hsl2;rw[yI] at Ja;have hlen:r.length+1<=900000:=by
      have:=congrArg List.length Ja;rw[lAp,List.length_cons] at this;omega
     have hml:=j.length;refine pK (by cases b <;> rfl) ?_;refine⟨λσ' O=>(aA H O/\∃ (f Y:List V) (r:PDs) (l:List (Nat×PyData)) (x3:Option V),σ'=[some v,some (.ref M),some (.ref W),x3]/\O M=some (.lst f)/\O W=some (.lst Y)/\BDs K O f r/\BDs K O Y (l.map (·.2))/\(∀ p∈l,WFx p.1 p.2)/\(∀ p∈l,wt p.2<=90000)/\r++stk l=cU n d)/\∃ y,O M=some (.lst (f++[y])),?_,?_⟩
     · rintro σ' O ⟨pv,y',hy'⟩;refine⟨_,?_,U,pv⟩;rw[hy',K8];show 900001-(f++[y']).length<900001-f.length;rw[lAp];show 900001-(f.length+1)<900001-f.length;omega
     · refine ab λoX iD=>?_;refine⟨_,U,.inl ⟨U,_,SqL.of Jr⟩,W,b++[y],y,U,U,Jr,by simp,?_⟩;rw[List.dropLast_concat];refine iD _ _ (ab λsv jj=>?_);have sm3:aA H (upd g W (.lst b)):=aK sm hWH;have hW3:(upd g W (.lst b)) W=some (.lst b):=pF;have K6:(upd g W (.lst b)) M=some (.lst f):=by rw[ai MW];exact K8
       have t:=j.kp (cK (xs:=b) (.inr ⟨_,Jr⟩));have I:=C.kp (cK (xs:=b) (.inr ⟨_,Jr⟩));have N:=hy.kp (cK (xs:=b) (.inr ⟨_,Jr⟩));generalize upd g W (.lst b)=H3 at sm3 hW3 K6 t I N ⊢;refine⟨_,U,.inl ⟨U,_,SqL.of K6⟩,_,U,M,f,y,U,U,K6,by omega,?_⟩;refine jj _ _ ?_;have sm4:aA H (upd H3 M (.lst (f++[y]))):=aK sm3 hM;have hM4:(upd H3 M (.lst (f++[y]))) M=some (.lst (f++[y])):=pF;have T:(upd H3 M (.lst (f++[y]))) W=some (.lst b):=by rw[ai (Ne.symm MW)];exact hW3
       have Ki:Kp H3 (upd H3 M (.lst (f++[y]))):=cK (.inr ⟨_,K6⟩);have u:=(t.snoc N).kp Ki;have F:=I.kp Ki;have hy4:=N.kp Ki;generalize upd H3 M (.lst (f++[y]))=H4 at sm4 hM4 T Ki u F hy4 ⊢;refine⟨_,U,.inl ⟨U,_,SqL.of T⟩,_,U,y,e,U,hy4,nde,hwte,λv5 H5 k5 tv=>?_⟩;obtain⟨c,zs,rfl,hc,IV⟩:=tv.tup_of;refine⟨_,U,_,U,c,zs,U,U,hc,λp hp=>?_⟩;have kp:=smu (o:=HO.tup zs.reverse) hp;have k6:=k5.trans kp;have k:=k6 _ _ T;have J:=k6 _ _ hM4;have K9:(upd H5 p (.tup zs.reverse)) p=some (.tup zs.reverse):=pF;have hz6:=BDs.rev (IV.same kp);have B:=u.same k6;have G:=F.same k6;have sm6:=sm4.trans k6;generalize upd H5 p (.tup zs.reverse)=H6 at kp k6 k J K9 hz6 B G sm6 ⊢;have hfew:(bw e).length<=90000:=by have h1:=cN (bw e);have h2:=(jA e).1;omega
       have hzl:=hz6.length;rw[List.length_reverse,List.length_reverse] at hzl;have hll:b.length<=900000:=by
        rw[hwl];have:l'.length<=l'.length+([(m+1,e)]:List (Nat×PyData)).length:=Nat.le_add_right _ _;omega
       refine⟨W,p,b,zs.reverse,U,U,k,SqT.of K9,by rw[List.length_reverse];omega,?_⟩;refine⟨⟨aK sm6 hWH,f++[y],b++zs.reverse,r++[e],l'++((bw e).map λx=>(m,x)).reverse,_,U,by rw[ai MW];exact J,pF,B.kp (cK (.inr ⟨_,k⟩)),?_,λp' L=>?_,λp' L=>?_,?_⟩,y,by rw[ai MW];exact J⟩
       · rw[List.map_append,List.map_reverse,List.map_map,show ((λx:Nat×PyData=>x.2)∘λx=>(m,x))=id from rfl,List.map_id];exact (G.app hz6).kp (cK (.inr ⟨_,k⟩))
       · rcases mAp.mp L with z | z
         · exact s p' (List.mem_append_left _ z)
         · obtain⟨x,hx,rfl⟩:=List.mem_map.mp (List.mem_reverse.mp z);exact hk x hx
       · rcases mAp.mp L with z | z
         · exact R p' (List.mem_append_left _ z)
         · obtain⟨x,hx,rfl⟩:=List.mem_map.mp (List.mem_reverse.mp z);have h1:=cM hx;have h2:=(jA e).1;show wt x<=90000;omega
       · rw[List.append_assoc];exact Ja
end
end K13
namespace L2
open PySem PySem.Spec PyProof.Rows PyProof.Rows
section
variable {X:Cx} {p w:Pos} {e:Expr} {x:List Expr} {t:TA}
inductive yh (xs:List V) (H:Hp) (Q:VK):Prop
  | mk (a:Addr) (kvs:List (Key×V)) (h1:xs=[.ref a]) (h2:H a=some (.dK kvs)) (q:∀ p,H p=none->Q (.ref p) (upd H p (.dK kvs))):yh xs H Q
def vZ:List V->Hp->VK->Prop:=λxs H Q=>yh xs H Q
def re:fZ X (.type "dict") vZ:=by
 intro g s σ H t v Q I o h;obtain⟨a,n,rfl,e,q⟩:=h;obtain⟨u,rfl,j⟩:=o.one;cases j;obtain⟨z,i,k,c,m⟩:=ij I.hok e;have l:k.length<=sizeLine:=by rw[<- Paired.length c];exact z
 refine kt_call_dict i m l λh' d p=>?_;refine⟨.ref _,_,I.laid (λb r f=>p.extBut b r (Nat.ne_of_lt (Heap.lt_size f)) (hpS _ f)) ?M (iE z ?_ c d),U,q _ (I.hok.fresh ?M)⟩;exact beq_eq_false_iff_ne.mpr (Ne.symm (Nat.ne_of_lt I.big))
def rg:bootBuiltins "dict"=some (.type "dict"):=by left
def tK (a:X.mg "dict"=none) (b:PA X (e::x) t) (c:Gl X "dict":=by rfl)
 (he:starEach (e::x) X.env=?U::starEach x X.env:=by rfl) (hpl:(backTo w (starEach x X.env)).any (·.1)=false:=by rfl) :
 PE X (.Call (.Name "dict" p) (e::x) [] w) (tCB vZ t):=i7 re c a rg b (he:=he) (hpl:=hpl)
end
end L2
namespace PySem
open Sem (wp)
section
variable {prog:Program} {w:World} {K:Type} [DecidableEq K] (knd:KeyKind prog w K)
def gU (h:Heap) (k:K×List K) (a:Addr):Prop:=∃ o v b n,h.get? a=some o/\o.cls=.type "tuple"/\o.data=.seq #[v,.ref b] n/\knd.is k.1 v=true/\IsTupleKey knd h k.2 b
variable {knd}
def gU.typeIs {s:Shared} (x:gU knd s.heap k a):s.TypeIs (.ref a) "tuple":=by
 obtain⟨o,_,_,_,b,c,_⟩:=x;exact⟨o,b,c⟩
def gU.inj (k:gU knd h x a) (f:gU knd h y a):x=y:=by
 obtain⟨o,v,b,n,j,_,i,q,r⟩:=k;obtain⟨p,u,s,t,g,_,c,d,l⟩:=f;obtain rfl:o=p:=Option.some.inj (j.symm.trans g);rw[i] at c
 injection c with m _
 have e:=congrArg Array.toList m;cases e;exact Prod.ext (knd.inj _ _ _ q d) (r.inj l)
def gU.keeps {es ep} (x:gU knd h k a) (i:h.get? d=some o) (f:o.data=.dict es ep) (g:Heap.SameBut d h h'):gU knd h' k a:=by
 obtain⟨j,v,b,n,e,l,c,p,q⟩:=x;have m:a≠d:=by
  rintro rfl;obtain rfl:j=o:=Option.some.inj (e.symm.trans i);rw[f] at c;exact nomatch c
 exact⟨j,v,b,n,(g.2 a m).trans e,l,c,p,q.keeps i f g⟩
variable {A:Around} {E:VSP} {s:Shared}
end
end PySem
namespace L2
open PySem PySem.Spec PyProof.Rows
abbrev NK:=Key×List Key
abbrev NKV:=List (NK×Addr×V)
end L2
namespace PySem
open Sem (wp)
section
variable {prog:Program} {w:World} {A:Around} {E:VSP} {s:Shared}
def vT {Q:VSP} (h:(d==sysModules)=false) (a:s.heap.get? d=some o) (g:o.ExactDict) (c:o.data=.dict l ep)
 (f:Q ?V {s with heap:=s.heap.push {cls:=.type "dict_keyiterator",data:=.fields #[.ref d,.int 0 0,.int l.size 0,.int ep 0]}}):
 wpAny ?L A (pyIter (.ref d)) Q E s:=by
 have b:s.TypeIs (.ref d) "dict":=⟨o,a,g.1⟩;refine wpAny_pyIter_slot b F.slot_dict_iter (wpAny_call_entry F.slot_dict_iter b F.entry_dict_iter ?_ (F.args_dict_iter_1 _));unfold Builtin.«dict.__iter__»;refine wB ?_;unfold Builtin.Dict.dictSlotNone;refine wB (wpAny_notOrdered_dict b ?_);refine wP ?_;show wpAny _ _ (Builtin.Dict.showsAll d>>=_) _ _ s;unfold Builtin.Dict.showsAll;rw[if_neg (by grind)];refine wB (wP ?_);refine wB (wpAny_dictEntries a c ?_);refine wB (wpAny_dictEpoch a c ?_);refine wB (wpAny_newObj_type (wP ⟨_,U,"dict_keyiterator",_,⟨_,Heap.get?_push_size _ U,U⟩,F.slot_dict_keyiterator_next.lookup,?_⟩))
 simpa [rawInt] using f
def vS (b:s.heap.IsKeyIter a d i l.size ep) (f:s.heap.get? d=some t) (m:t.data=.dict l ep) (e:i<l.size)
 (n:∀ k,k.IsKeyIter a d (i+1) l.size ep->Heap.SameBut a s.heap k->Q (some l[i].key) {s with heap:=k}):
 wpAny ?L A (pyNext (.ref a)) Q E s:=by
 obtain⟨o,j,p,h⟩:=id b;unfold pyNext;refine wB (wpAny_attempt (wpAny_callSpecial?_slot b.typeIs F.slot_dict_keyiterator_next
   (wpAny_call_entry F.slot_dict_keyiterator_next b.typeIs F.entry_dict_keyiterator_next ?_ (F.args_dict_keyiterator_next_1 _))))
 refine wB (wP ?_);refine wB ?_;refine wB ?_
 first | refine wB (wpAny_typeNameOfWhole_keyiter b.typeIs (wP ?_)) | refine wB (wpAny_typeNameOf_keyiter b.typeIs (wP ?_))
 refine wB (wpAny_fieldsOf j h ?_);have g:Builtin.Dict_items.ownsTuple "dict_keyiterator"=false:=by decide
 simp -iota only[g,Bool.false_eq_true,if_false];show wpAny _ _ (if (Value.ref d==Value.none)=true then _ else _) _ _ s;rw[if_neg (show ¬ ((Value.ref d==Value.none)=true) from Bool.false_ne_true)];refine wB (wP ?_);refine wB (wpAny_dictEntries f m ?_);rw[if_neg ?B];refine wB (wP ?_);refine wB (wpAny_dictEpoch f m ?_);rw[if_neg ?B];refine wP ?_;dsimp only;simp -iota only[show ¬ (i<0) from by lia,if_false,Int.toNat_natCast,Array.getElem?_eq_getElem e];refine wB ?_
 first | refine wB (wpAny_typeNameOfWhole_keyiter b.typeIs (wP ?_)) | refine wB (wpAny_typeNameOf_keyiter b.typeIs (wP ?_))
 refine wB (wpAny_isOneOf_keyiter b.typeIs ?_);show wpAny _ _ (setField (.ref a) 1 (rawInt ((i:Int)+1))>>=_) _ _ s;refine wB (wpAny_setField j h ?B ?_);have c:(s.heap.update a (Obj.mapFields (·.setIfInBounds 1 (rawInt ((i:Int)+1))))).IsKeyIter a d (i+1) l.size ep :=
  ⟨_,Heap.get?_update_self _ j (Obj.isFreed_of_fields (Obj.data_mapFields h _)),(Obj.cls_mapFields ..).trans p,by rw[Obj.data_mapFields h];simp[rawInt]⟩
 refine wB (wpAny_holding ?_);refine wB (wpAny_isOneOf_keyiter c.typeIs ?_);exact wP (wP ⟨_,U,wP (n _ c (Heap.SameBut.update ..))⟩)
def yV (m:A.handled=none) (b:s.heap.IsKeyIter j d i q.size ep) (c:s.heap.get? d=some u) (l:u.data=.dict q ep) (f:q.size<=i)
 (n:∀ k,Heap.ExtBut j s.heap k->Q none {s with heap:=k}):wpAny ?L A (pyNext (.ref j)) Q E s:=by
 obtain⟨o,h,p,g⟩:=id b;unfold pyNext;refine wB (wpAny_attempt (wpAny_callSpecial?_slot b.typeIs F.slot_dict_keyiterator_next
   (wpAny_call_entry F.slot_dict_keyiterator_next b.typeIs F.entry_dict_keyiterator_next ?_ (F.args_dict_keyiterator_next_1 _))))
 refine wB (wP ?_);refine wB ?_;refine wB ?_
 first | refine wB (wpAny_typeNameOfWhole_keyiter b.typeIs (wP ?_)) | refine wB (wpAny_typeNameOf_keyiter b.typeIs (wP ?_))
 refine wB (wpAny_fieldsOf h g ?_);have e:Builtin.Dict_items.ownsTuple "dict_keyiterator"=false:=by decide
 simp -iota only[e,Bool.false_eq_true,if_false];show wpAny _ _ (if (Value.ref d==Value.none)=true then _ else _) _ _ s;rw[if_neg (show ¬ ((Value.ref d==Value.none)=true) from Bool.false_ne_true)];refine wB (wP ?_);refine wB (wpAny_dictEntries c l ?_);rw[if_neg ?B];refine wB (wP ?_);refine wB (wpAny_dictEpoch c l ?_);rw[if_neg ?B];refine wP ?_;dsimp only;simp -iota only[show ¬ (i<0) from by lia,if_false,Int.toNat_natCast,Array.getElem?_eq_none f];refine wB ?_
 first | refine wB (wpAny_typeNameOfWhole_keyiter b.typeIs (wP ?_)) | refine wB (wpAny_typeNameOf_keyiter b.typeIs (wP ?_))
 show wpAny _ _ (setField (.ref j) 0 .none>>=_) _ _ s;refine wB (wpAny_setField h g ?B ?_);refine wB ?_;simp only[newExc,newTuple];refine wB (wpAny_newObj_type ?_ (by size_fits));refine wB (wpAny_of_eq (by first | rfl | (simp only[firstArgMember];rfl)) ?_);refine wpAny_newObj_type ?_ (by size_fits);simp only[raiseNew];refine wB (wpAny_handled ?_);rw[show A.in1.handled=none from m];refine wB (wP (wpAny_throw ?_));refine wB (wpAny_isInstance ⟨_,Heap.get?_push_size _ U,U⟩ isSubtype_stop ?_);exact wP (n _ (((Heap.SameBut.update ..).extBut.push _).push _))
end
end PySem
namespace L2
open PySem PySem.Spec PyProof.Rows
def DK1 (P:Program) (w:World) (d:Addr) (kvs:List (Key×V)) (h:Heap):Prop:=kvs.length<=sizeLine/\(d==sysModules)=false/\∃ vs,KV kvs vs/\h.DictOf (aI P w) d vs
def DKo (P:Program) (w:World) (d:Addr) (o:Obj) (kvs:List (Key×V)):HO:=.ext λh=>h.get? d=some o/\DK1 P w d kvs h
section
variable {P:Program} {w:World} {H H':Hp} {h h':Heap} {d:Addr} {o:Obj} {kvs:List (Key×V)}
def xH (x:DK1 P w d kvs h) (k:∀ o,h.get? d=some o->h'.get? d=some o):DK1 P w d kvs h':=by
 obtain⟨z,y,b,r,o,f,a,e,c⟩:=x;exact⟨z,y,b,r,o,f,a,k _ e,c⟩
def xG (e:h.get? d=some o) (x:DK1 P w d kvs h):bV P w H h d (DKo P w d o kvs):=⟨⟨e,x⟩,⟨o,e⟩,λh1 c a b=>⟨b _ a.1,xH a.2 b⟩⟩
def jG (ok:HOk P w H h) (e:H d=some (DKo P w d o kvs)):h.get? d=some o/\DK1 P w d kvs h:=(ok d _ e).1
def C6 (p:Pairs (aI P w) es vs) (r:KV kvs vs):∀ {i:Nat} {x:Key×V},kvs[i]?=some x->∃ e,es[i]?=some e/\bh (kV x.1) e.key:=by
 induction p generalizing kvs with
 | nil=>intro i x c;cases r;cases c
 | @cons e kv es vs h1 h2 _ ih =>
  intro i x c;cases r with
  | cons a b =>
   cases i with
   | zero =>
    cases c;refine⟨e,U,?_⟩;rw[a.1];obtain⟨k,v⟩:=kv;cases k with
    | inl i=>exact Value.isInt_shape h1
    | inr s=>exact Value.isStrOf_shape h1
   | succ i=>exact ih b c
end
def Itk (P:Program) (w:World) (d:Addr) (o:Obj) (kvs:List (Key×V)):It:=⟨λi H=>i<kvs.length/\H d=some (DKo P w d o kvs),λi H v H'=>H'=H/\∃ x,kvs[i]?=some x/\v=kV x.1,λi H=>kvs.length<=i/\H d=some (DKo P w d o kvs)⟩
def yy {P:Program} {w:World} {K:Fg} {tg:Expr} (j d:Addr) (o:Obj) (kvs:List (Key×V)) {m:Array DictEntry} {ep:Nat} (A:o.data=.dict m ep):kh P w K tg (Itk P w d o kvs) [j] j (λi h=>h.IsKeyIter j d i m.size ep) where
 mem:=by simp
 obj:=λi h f b l=>by
  have e:b=j:=by simpa using l
  ext n
 keep:=λi h h' f k=>by
  obtain⟨o,e,r⟩:=f;exact⟨o,k j ?B o e,r⟩
 item:=by
  intro X T L J Z i g s σ H E I B f S;subst T L J;obtain⟨R,N,f2,M,C,F⟩:=B j ?B;obtain⟨O,Q⟩:=S;obtain⟨q,z,_,vs,a,o2,G,D,v,h2,t,h4,y,h6⟩:=jG I.hok Q;rw[q] at v;cases v;rw[A] at t;cases t;have hx:=gEE O;obtain⟨en,x,Y⟩:=C6 y a hx;have p:m.size=kvs.length:=by rw[<- Array.length_toList,y.length,<- a.length]
  have n:i<m.size:=by omega
  refine vS f q A n λh' u sb=>?_;have I1:Inv X g σ H {s with heap:=h',toks:=s.toks}:=I.turned (λb o l e=>(sb.2 b l).trans e) R N M C F;obtain⟨oi,e,c,dd⟩:=id u;have hk:m[i]=en:=by
   rw[Array.getElem?_toList,Array.getElem?_eq_getElem n] at x;exact Option.some.inj x
  rw[<- hk] at Y;exact⟨_,U,pb e c dd ?G ⟨kV kvs[i].1,H,I1,Y,⟨U,_,hx,U⟩,u,λb l=>(B b l).1⟩⟩
 done:=by
  intro X T L J Z i g s σ H E I B f S;subst T L J;obtain⟨R,N,f2,M,C,F⟩:=B j ?B;obtain⟨O,Q⟩:=S;obtain⟨q,z,_,vs,a,o2,G,D,v,h2,t,h4,y,h6⟩:=jG I.hok Q;rw[q] at v;cases v;rw[A] at t;cases t;have p:m.size=kvs.length:=by rw[<- Array.length_toList,y.length,<- a.length]
  exact yV (I.ok.hd Z) f q A (by rw[p];exact O) λh' eb=>⟨U,I.turned (λb o l e=>eb b o l e) R N M C F⟩
 self:=λ_ _ _ _ _ f h=>wpAny_pyIter_keyiter f h
def iDk (P:Program) (w:World) (tl:TE):TI:=λσ H R=>tl σ H λv H1=>∃ d kvs,v=.ref d/\H1 d=some (.dK kvs)/\∀ o,R (Itk P w d o kvs) (upd H1 d (DKo P w d o kvs))
def E7 (B:PE X l tl):PI X tg l (iDk X.prog X.w tl):=by
 intro a s σ H R I h;refine thn (B a s σ H _ I h) λv f z=>?_;obtain⟨y,J,k,A,d,i,x,n,q⟩:=z;subst x;obtain rfl:v=Value.ref d:=A;have c:=ij k.hok n;obtain⟨z,u,F,p,o,E,G,j,r,m,K,L,D⟩:=id c;have g:=dG (t':=f.toks) k (by rw[n];exact True.intro) ⟨U,λ_ _=>rfl⟩ ⟨o,j⟩ (xG j c);refine vT u j r m ?_;refine⟨f.heap.objs.size,[f.heap.objs.size],_,_,_,U,g.kept λb o e=>hpS _ e,yy _ d o i m,⟨_,Heap.get?_push_size _ U,U,U⟩,λb C=>?_,q o⟩;have e:b=f.heap.objs.size:=by simpa using C
 subst e;exact g.fpOk ?M (g.hok.fresh ?M)
def tM {P:Program} {w:World} {d:Addr} {o:Obj} {kvs:List (Key×V)}:fF (Itk P w d o kvs) (kvs.map λx=>kV x.1) (λH=>H d=some (DKo P w d o kvs)) where
 go:=λi H h a=>⟨by rw[lMp] at a;exact a,h⟩
 yld:=λi H x e f h b=>by
  obtain⟨rfl,p,c,rfl⟩:=b;exact⟨U,by rw[gEM,c];rfl⟩
 stop:=λi H h a=>⟨by rw[lMp] at a;exact a,h⟩
def CS (P:Program) (w:World) (t:TE):TE:=λσ H Q=>t σ H λv H1=>∃ d o kvs,H1 d=some (DKo P w d o kvs)/\Q v (upd H1 d (.dK kvs))
def CF (e:Expr) (d:Nat) (acc:Value) (env:Env):Prop:=(∀ (prog:Program) (w:World) (it:Value),(?L).den (.compLoop e d it acc env)=Sem.onRaise (compTurn e d it acc env) (λx=>do noteFrame x env;theTreesLotGoes x))/\∀ (A:Around) (it:Value),A.under (.compLoop e d it acc env)=A
def FB (e:Expr) (d:Nat) (acc:Value) (env:Env):Prop:=(∀ (prog:Program) (w:World) (it:Value),∃ k,(?L).den (.compStart e d it acc env)=Sem.onRaise (compStart e d it acc env) k)/\∀ (A:Around) (it:Value),A.under (.compStart e d it acc env)=A
def lF (e:Expr) (d:Nat) (tg:Expr) (ifs:List Expr) (ip:Pos) (em:Sem Fin) (it acc:Value) (env:Env):Prop :=
  compTurn e d it acc env=(do
    standAt ip
    let r <- pyNext it
    match r with
      | none=>pure (Fin.done Flow.next)
      | some v=>do
        letOwnedTupleGo tg it v
        assign tg env v
        let ok <- nQ ifs env
        if ok=true then em
        else again (.compLoop e d it acc env))
def Cp (o:CF e d B z) (x:lF e d G E H em D B z) (J:Nat->Shared->Prop)
 (b:∀ n s,J n s->wpAny ?L A (pyNext D) (λr j=>(r=none/\R (.ok .next) j)\/∃ v,r=some v /\
 wpAny ?L A (letOwnedTupleGo G D v) (λ_ p=>wpAny ?L A (assign G z v) (λ_ q=>wpAny ?L A (nQ E z) (λF g =>
 (F=false/\∃ m,m<n/\J m g)\/(F=true/\wpAny ?L A em (λC l=>C=.again (.compLoop e d D B z)/\∃ m,m<n/\J m l) (λ_ _=>False) g))
 (λ_ _=>False) q) (λ_ _=>False) p) (λ_ _=>False) j) (λ_ _=>False) s)
 (n:Nat) (h:J n s):codeAny ?L A (.compLoop e d D B z) R s:=by
 refine codeAny_loop U J (λn s t=>?_) n h;rw[o.1,o.2];refine wpAny_noted ?_;rw[x];refine wB (wpAny_standAt (wB (wpAny_mono (b n s t) (λr j c=>?_) λ_ _ f=>f.elim)))
 rcases c with ⟨k,c⟩ | ⟨v,k,c⟩
 · subst k;exact wP c
 · subst k;refine wB (wpAny_mono c (λ_ p u=>?_) λ_ _ f=>f.elim);refine wB (wpAny_mono u (λ_ q y=>?_) λ_ _ f=>f.elim);refine wB (wpAny_mono y (λF g a=>?_) λ_ _ f=>f.elim)
   rcases a with ⟨e,a⟩ | ⟨e,a⟩
   · subst e;exact wP ⟨U,a⟩
   · subst e;refine wpAny_mono a (λC l i=>?_) λ_ _ f=>f.elim;obtain⟨rfl,i⟩:=i;exact⟨U,i⟩
def Co (a:FB e d acc env) (c:(clausesOf e)[d]?=some g) (i:(g.is_async != 0)=false)
 (m:codeAny ?L A (.compLoop e d it acc env) R s) (j:wpAny ?L A (pyIter it) (λit' b=>codeAny ?L A (.compLoop e d it' acc env) R b) (λ_ _=>False) s):codeAny ?L A (.compStart e d it acc env) R s:=by
 refine codeAny_of_tree ?_;obtain⟨k,l⟩:=a.1 prog w it;rw[l,a.2];refine wpAny_onRaise ?_;unfold compStart;rw[if_neg (by rw[c];simp[i])];refine wB (wpAny_askSetting ?_);split
 · exact wP ⟨U,m⟩
 · refine wB (wpAny_rule ?_);rw[c];refine wB (wpAny_standAt ?_);exact wB (wpAny_mono j (λit' b h=>wP ⟨U,h⟩) λ_ _ f=>f.elim)
def xI:CF (.DictComp kx vx gens sc pos) d acc env:=⟨λ_ _ _=>rfl,λ_ _=>rfl⟩
def uH:FB (.DictComp kx vx gens sc pos) d acc env:=⟨λ_ _ _=>⟨_,U⟩,λ_ _=>rfl⟩
def Cl (kx vx:Expr) (D:Addr) (env:Env):Sem Unit:=do
  let kv <- eval kx env
  let vv <- holding [kv] (eval vx env)
  standAt (have src:=kx.pos;{line:=src.line,col:=src.col,endLine:=vx.pos.endLine,endCol:=vx.pos.endCol})
  holding [kv,vv] (dictSet D kv vv)
def emD (kx vx:Expr) (D:Addr) (env:Env) (c:Code):Sem Fin:=do
  let _ <- Cl kx vx D env
  again c
def rG:lF (.DictComp kx vx [⟨b,iter,a,0⟩] sc pos) 0 b a iter.pos (emD kx vx D env (.compLoop (.DictComp kx vx [⟨b,iter,a,0⟩] sc pos) 0 it (.ref D) env)) it (.ref D) env:=by
 unfold lF emD Cl;rfl
section
variable {h:Type}
abbrev TM (h:Type):=h->St->Hp->(h->St->Hp->Prop)->Prop
def jV (J:It) (g:TG) (tc:TT) (t:TM h) (Qe:h->St->Hp->Prop) (k0:h) (σ0:St) (H0:Hp):Prop :=
  ∃ W:Nat->Nat->h->St->Hp->Prop,(∃ m,W 0 m k0 σ0 H0)/\∀ i m k σ' H',W i m k σ' H' ->
    (J.stop i H'/\Qe k σ' H')\/(J.go i H'/\∃ N:h->St->Hp->Prop,(∀ k2 σ2 H2,N k2 σ2 H2->∃ m',m'<m/\W (i+1) m' k2 σ2 H2)/\∀ x H2,J.yld i H' x H2->g x σ' H2 λσ3 H3=>tc σ3 H3 λb H4=>if b=true then t k σ3 H4 N else N k σ3 H4)
def jV.by {J:It} {xs:List V} {n:Hp->Prop} (Y:fF J xs n) {g:TG} {tc:TT} {t:TM l} {o:l->St->Hp->Prop} {k0:l} {j:St} {r:Hp} (d:Nat->l->St->Hp->Prop) (v:d 0 k0 j r) (w:∀ i k a H,i<=xs.length->d i k a H->n H)
 (z:∀ i x k a H,xs[i]?=some x->d i k a H->g x a H λf A=>tc f A λb s=>if b=true then t k f s (d (i+1)) else d (i+1) k f s)
 (B:∀ k a H,d xs.length k a H->o k a H):jV J g tc t o k0 j r:=by
 refine⟨λi m k a H=>m=xs.length-i/\i<=xs.length/\d i k a H,⟨xs.length,by simp,Nat.zero_le _,v⟩,?_⟩;rintro i m k a H ⟨rfl,C,p⟩;have q:=w i k a H C p;by_cases c:i<xs.length
 · refine .inr ⟨Y.go i H q c,d (i+1),λG D u E=>⟨xs.length-(i+1),Nat.sub_succ_lt_self _ _ c,U,c,E⟩,λx u y=>?_⟩;obtain⟨e,F⟩:=Y.yld i H x u (Y.go i H q c) q y;subst e;exact z i x k a _ F p
 · have e:i=xs.length:=by omega
   subst e;exact .inl ⟨Y.stop _ H q ?M,B k a H p⟩
def PM (Y:Cx) (pf:h->AOs->Prop) (av:List Addr) (c:Code) (em:Sem Fin) (t:TM h):Prop :=
  ∀ (pins pl:AOs) (k:h) (s:Shared) (σ:St) (H:Hp) (N:h->St->Hp->Prop),(∀ p∈pins,p.1∉av)->pf k pl->Inv Y (pl++pins) σ H s->t k σ H N->wpAny (model Y.prog Y.w) Y.A em (λfin s'=>fin=.again c/\∃ k' pl' σ' H',pf k' pl'/\Inv Y (pl'++pins) σ' H' s'/\N k' σ' H') Y.xe s
set_option maxHeartbeats 8000000 in
def zW {Y:Cx} {pf:h->AOs->Prop} {av:List Addr} {bp:AOs} {e tg:Expr} {d:Nat} {ifs:List Expr} {ip:Pos} {em:Sem Fin} {it:Addr} {acc:Value} {fp:List Addr} {tn:Nat->Heap->Prop} {J:It} {g:TG} {tc:TT} {t:TM h} {Qe:h->St->Hp->Prop} {R:Result->Shared->Prop}
 (hD:CF e d acc Y.env) (hT:lF e d tg ifs ip em (.ref it) acc Y.env) (Jg:Y.calm=true) (KH:Y.xe=λ_ _=>False) (T:kh Y.prog Y.w Y.K tg J fp it tn) (hg:PG Y tg g) (KE:oz Y ifs tc) (hm:PM Y pf av (.compLoop e d (.ref it) acc Y.env) em t)
 (hv1:∀ p∈bp,p.1∉av) (hv2:∀ b∈fp,b∉av) (stat:∀ (k:h) (pl:AOs) (H':Hp),pf k pl->(∀ b∈fp,H' b=none)->∀ b∈fp,jd Y (pl++bp) H' b) {k0:h} {pl0:AOs} {σ0:St} {H0:Hp} {s0:Shared} (JL:pf k0 pl0) (I0:Inv Y (pl0++bp) σ0 H0 s0) (st0:tn 0 s0.heap) (fr0:∀ b∈fp,H0 b=none) (hL:jV J g tc t Qe k0 σ0 H0)
 (fin:∀ k pl σ' H' s',pf k pl->Inv Y (pl++bp) σ' H' s'->Qe k σ' H'->R (.ok .next) s'):codeAny (model Y.prog Y.w) Y.A (.compLoop e d (.ref it) acc Y.env) R s0:=by
 obtain⟨W,⟨m0,w0⟩,turn⟩:=hL;refine Cp hD hT (λn s'=>∃ i k pl σ' H',pf k pl/\Inv Y (pl++bp) σ' H' s'/\tn i s'.heap/\(∀ b∈fp,H' b=none)/\W i n k σ' H') ?_ m0 ⟨0,k0,pl0,_,_,JL,I0,st0,fr0,w0⟩;rintro n s5 ⟨i,k5,pl5,σ5,H5,Jo,I5,JZ,Kq,w5⟩
 rcases turn i n k5 σ5 H5 w5 with ⟨stop,q⟩ | ⟨go,N,hN,step⟩
 · refine thn (T.done Y U U U Jg i _ s5 σ5 H5 _ I5 (stat k5 pl5 H5 Jo Kq) JZ stop) λr s6 zz97=>?_;obtain⟨hr,I6⟩:=zz97;exact .inl ⟨hr,fin _ _ _ _ _ Jo I6 q⟩
 · refine thn (T.item Y U U U Jg i _ s5 σ5 H5 _ I5 (stat k5 pl5 H5 Jo Kq) JZ go) λr s6 zz98=>?_;obtain⟨u,hr,h6⟩:=zz98;refine .inr ⟨u,hr,?_⟩;refine thn h6 λ_ s7 zz99=>?_;obtain⟨x,H7,I7,r7,y7,Ko,fr7⟩:=zz99;have I7':=I7.pinned (stat k5 pl5 H7 Jo fr7) (T.obj _ _ Ko);rw[List.append_assoc] at I7';have pinsOk:∀ {k8:h} {pl8:AOs} {σ8:St} {H8:Hp} {s8:Shared},pf k8 pl8->Inv Y (pl8++(bp++js fp s7.heap)) σ8 H8 s8->N k8 σ8 H8->∃ m,m<n/\∃ i k pl σ' H',pf k pl/\Inv Y (pl++bp) σ' H' s8/\tn i s8.heap/\(∀ b∈fp,H' b=none)/\W i m k σ' H':=λ{k8 pl8 σ8 H8 s8} hp8 I8 n8=>by
    obtain⟨m',hm,w8⟩:=hN k8 σ8 H8 n8;rw[<- List.append_assoc] at I8;refine⟨m',hm,i+1,k8,pl8,σ8,H8,hp8,I8.unpinned,T.keep _ _ _ Ko λb hb o e=>(I8.pin (b,o) (List.mem_append_right _ (List.mem_append_right _ (dZ hb e)))).1,λb hb=>?_,w8⟩;obtain⟨o,e,d⟩:=T.obj _ _ Ko b hb;exact (I8.pin (b,o) (List.mem_append_right _ (List.mem_append_right _ (dZ hb e)))).2.1
   have toF:∀ {α:Type} {t:Sem α} {Q':α->Shared->Prop} {s':Shared},wpAny (model Y.prog Y.w) Y.A t Q' Y.xe s'->wpAny (model Y.prog Y.w) Y.A t Q' (λ_ _=>False) s':=λ{α t Q' s'} z=>wpAny_mono z (λ_ _ a=>a) λ_ _ a=>by rw[KH] at a;exact a
   ext p;cases ok with
   | false =>
    rw[if_neg Bool.false_ne_true] at q9;exact .inl ⟨U,pinsOk Jo I9 q9⟩
   | true =>
    rw[if_pos U] at q9;refine .inr ⟨U,toF (thn (hm _ _ k5 s9 σ8 H9 _ (λp hp=>by rcases mAp.mp hp with z | z;exact hv1 p z;exact hv2 p.1 (mv z).1) Jo I9 q9) λy s10 zz102=>?_)⟩;obtain⟨hf,k',pl',σ',H',hp',I',n'⟩:=zz102;exact⟨hf,pinsOk hp' I' n'⟩
end
abbrev p0:Unit->AOs->Prop:=λ_ pl=>pl=[]
inductive FA (D:Addr) (x y:V) (H:Hp) (N:Hp->Prop):Prop
  | mk (kvs:List (Key×V)) (key:Key) (h1:x=kV key) (h2:H D=some (.dK kvs)) (h3:kvs.length<sizeLine) (q:N (upd H D (.dK (cr kvs key y)))):FA D x y H N
def yF (D:Addr) (tk tv:TE):TM Unit:=λ_ σ H N=>tk σ H λx H1=>tv σ H1 λy H2=>FA D x y H2 (N () σ)
def rY (m:PE Y kx tk) (hv:PE Y vx tv):PM Y p0 [] c (emD kx vx D Y.env c) (yF D tk tv):=by
 intro g K k s σ H N _ o I h;subst o;unfold emD Cl;refine wB (wB (thn (m _ s σ H _ I h) λu p z=>?_));obtain⟨x,v,C,n,F⟩:=z;refine wB (wpAny_holding (thn (hv _ p σ v _ C F) λu2 J z=>?_));obtain⟨y,G,i,E,d,key,rfl,f,M,q⟩:=z;refine wB (wpAny_standAt (wpAny_holding ?_));obtain⟨z,t,r,a,A⟩:=ij i.hok f;have j:r.length<=sizeLine:=by rw[<- a.length];exact z
 have e:(cr d key y).length<=sizeLine:=by have:=bS d key y;omega
 refine wpAny_dictSet_pairs (fX n) A (λh' b w=>wP ⟨U,(),[],σ,_,U,?_,q⟩) j;have l:∃ q,h'.get? D=some q:=let ⟨q,_,_,B,_⟩:=b;⟨q,B⟩;exact dG i (by rw[f];exact True.intro) w l (iE e t (a.put key E) b)
def tDC (wi:TI) (k:Nat) (outs:List (Nat×Str)) (g:TG) (tc:TT) (t:Addr->TM Unit):TE:=λσ H Q=>wi σ H λJ H1=>∀ D,H1 D=none->jV J g tc (t D) (λ_ _ H'=>Q (.ref D) H') () (il k outs σ) (upd H1 D (.dK []))
set_option maxHeartbeats 8000000 in
def sY {X:Cx} {kx vx tg iter:Expr} {ifs:List Expr} {bT:List Comprehension} {sc:Scope} {pos gt:Pos} {wi:TI} {g:TG} {tc:TT} {t:Addr->TM Unit} {em:Addr->Env->Value->Sem Fin} {own:List Str} {outs:List (Nat×Str)} {use:Option (Value->Sem Unit)} {PQ:VSP} {pins:AOs} {s:Shared} {σ:St} {H:Hp} {Q:VK} (hc:X.calm=true) (S:aG X sc own outs) (hi:PI X tg iter wi)
 (hT:∀ D env it,lF (.DictComp kx vx (⟨tg,iter,ifs,0⟩::bT) sc pos) 0 tg ifs iter.pos (em D env it) it (.ref D) env)
 (hb:∀ (fp:List Addr) (pins:AOs) (s:Shared) (H:Hp),PG ?Aa tg g /\
   oz ?Aa ifs tc/\∀ D it,PM ?Aa p0 [] (.compLoop (.DictComp kx vx (⟨tg,iter,ifs,0⟩::bT) sc pos) 0 it (.ref D) (?Aa).env) (em D (?Aa).env it) (t D))
 (hs:∀ x,foldedSetIterable iter X.env x=pure x) (I:Inv X pins σ H s) (h:tDC wi own.length outs g tc t σ H Q)
 (fin:∀ (D c:Addr) (m6:SOV) (H5:Hp) (s6:Shared),Inv X pins σ H5 s6->s6.heap.Ns c m6->H5 c=none->X.env.locals≠c->X.s₀.heap.objs.size<=c->(∀ x c',X.env.cells.lookup x=some c'->c'≠c)->(∀ p∈X.pn++pins,p.1≠c)->Q (.ref D) H5 ->
   compPost ?N X.A X.xe use PQ (.ref D) c (.ok .next) s6) :
 wpAny ?N X.A (comprehension (.DictComp kx vx (⟨tg,iter,ifs,0⟩::bT) sc pos) sc X.env gt newDict false (eval iter X.env) use) PQ X.xe s:=by
 have Io:closureFor sc X.env=pure ?W:=lC λy hy e=>I.ok.has y.1 (S.fr y hy e);refine wpAny_comprehension_free (use:=use) rfl hs Io S.kind S.loc (thn (hi pins s σ H _ I h) λv s1 h1=>thn h1 λitv s2 h2=>?_);obtain⟨it,fp,tn,J,H2,rfl,I2,T,Ks,f2,h2⟩:=h2;refine wpAny_newObj_type ?_;generalize hD:s2.heap.objs.size=D;have fr:H2 D=none:=by rw[<- hD];exact I2.fresh
 have hL:=h2 D fr;have I3:Inv X pins σ (upd H2 D (.dK [])) {s2 with heap:=s2.heap.push {cls:=.type "dict",data:=.dict #[]}}:=by
  have q:=I2.laid (a:=s2.heap.objs.size) (o:=.dK []) (h':=s2.heap.push {cls:=.type "dict",data:=.dict #[]}) (t':=s2.toks) (λ_ _ q=>hpS _ q) ?M (j9 s2.heap I2.big);rw[hD] at q;exact q
 have Ky:∀ b∈fp,b<s2.heap.objs.size:=λb hb=>by
  obtain⟨o,e,_⟩:=T.obj _ _ Ks b hb;exact Heap.lt_size e
 have f3:∀ b∈fp,jd X pins (upd H2 D (.dK [])) b:=λb hb=>⟨by rw[ai (by rw[<- hD];exact Nat.ne_of_lt (Ky b hb))];exact (f2 b hb).1,(f2 b hb).2⟩;generalize hS:({s2 with heap:=s2.heap.push {cls:=.type "dict",data:=.dict #[]}}:Shared)=s3 at I3;have k3:∀ b o,s2.heap.get? b=some o->s3.heap.get? b=some o:=λb o e=>by rw[<- hS];exact hpS _ e
 have z3:s2.heap.objs.size<=s3.heap.objs.size:=by rw[<- hS];show _<=(s2.heap.push _).objs.size;rw[Heap.size_push];exact Nat.le_succ _
 have st3:tn 0 s3.heap:=T.keep _ _ _ Ks λb _ o e=>k3 b o e;refine wpAny_newFunctionEnv S.nocell (λy hy=>by cases hy) (λh4 hn4 sb4=>?_) S.kind;have k4:∀ b o,s3.heap.get? b=some o->h4.get? b=some o:=λb o e=>sb4.extBut b o (Nat.ne_of_lt (Heap.lt_size e)) (hpS _ e);have hn4':h4.Ns s3.heap.objs.size λ_=>none:=by
  have q:=hn4;simp only[List.reverse_nil,List.lookup_nil] at q;exact q
 have I4:=sK (t':=s3.toks+([]:List (Str×Value)).length) I3 S f3 (λb hb=>Nat.lt_of_lt_of_le (Ky b hb) z3) hn4' k4;have st4:tn 0 h4:=T.keep _ _ _ st3 λb _ o e=>k4 b o e;obtain⟨hg,KE,he⟩:=hb fp pins s3 (upd H2 D (.dK []));generalize hY:blk X sc ?W (dI own outs) fp pins s3 (upd H2 D (.dK []))=Y at I4 hg KE he;have yenv:Y.env=compEnvC sc ?W s3.heap.objs.size X.env:=by rw[<- hY];rfl
 have statY:∀ {H':Hp},(∀ b∈fp,H' b=none)->∀ b∈fp,jd Y [] H' b:=λ{H'} hn b hb=>by
  subst hY;obtain⟨_,a1,a2,a3,a4,a5⟩:=f3 b hb;refine⟨hn b hb,Nat.ne_of_lt (Nat.lt_of_lt_of_le (Ky b hb) z3),λz=>?_,.inl hb,λx c e=>a4 x c (gQ e),λp hp=>?_⟩
  · rcases List.mem_cons.mp (I3.stkSub b z) with y | y
    · exact a1 y
    · exact a2 y
  · rcases mAp.mp hp with z | z
    · exact a5 p z
    · cases z
 have loop:codeAny ?N X.A (.compLoop (.DictComp kx vx (⟨tg,iter,ifs,0⟩::bT) sc pos) 0 (.ref it) (.ref D) Y.env) (compPost ?N X.A X.xe use PQ (.ref D) s3.heap.objs.size)
  {s3 with heap:=h4,toks:=s3.toks+([]:List (Str×Value)).length}:=by
  have hP:Y.prog=X.prog:=by rw[<- hY];rfl
  have hw:Y.w=X.w:=by rw[<- hY];rfl
  have hA:Y.A=X.A:=by rw[<- hY];rfl
  have hK:Y.K=X.K:=by rw[<- hY];rfl
  have KH:Y.xe=λ_ _=>False:=by rw[<- hY];rfl
  have Jg:Y.calm=true:=by rw[<- hY];exact hc
  rw[<- hP,<- hw,<- hK] at T;have key:=zW (Y:=Y) (pf:=p0) (bp:=[]) (R:=compPost ?N X.A X.xe use PQ (.ref D) s3.heap.objs.size) xI (hT D Y.env (.ref it)) Jg KH T hg KE (he D (.ref it)) (λ_ _ z=>by cases z) (λ_ _ z=>by cases z) (λ_ pl H' hp hn=>by rw[hp];exact statY hn) (k0:=()) (pl0:=[]) rfl I4 st4 (λb hb=>(f3 b hb).1) hL ?_
  · rw[hP,hw,hA] at key;exact key
  intro _ pl σ6 H5 s6 hp I6 q;subst hp;obtain⟨m6,hn6,_⟩:=I6.loc;have yl:Y.env.locals=s3.heap.objs.size:=by rw[yenv];rfl
  have u6:Un (frs X.stack) fp (upd H2 D (.dK [])) H5 s3.heap s6.heap:=by
   have q:=I6.base;subst hY;exact q
  have I7:Inv X pins σ H5 s6:=by
   refine I3.call' (s':=s6) (ch:=fp) ?_ u6 ?_ I6.bare λb hb=>?_
   · have q:=I6.os;subst hY;exact q
   · intro a o e;have q:=I6.hok a o e;subst hY;exact q
   · obtain⟨_,a1,a2,a3,a4,a5⟩:=f3 b hb;exact⟨a3,a1,a4,a5⟩
  ext g
 rw[yenv] at loop;exact Co uH U U loop (T.self _ 0 _ _ _ st4 loop)
def BG (t:X.calm=true) (S:aG X sc own outs) (hi:PI X j B C)
 (f:∀ (d:List Addr) (a:AOs) (s:Shared) (H:Hp),PG (blk X sc ?W (dI own outs) d a s H) j g /\
 oz (blk X sc ?W (dI own outs) d a s H) i tc/\PE (blk X sc ?W (dI own outs) d a s H) E F/\PE (blk X sc ?W (dI own outs) d a s H) G J)
 (r:∀ x,foldedSetIterable B X.env x=pure x:=by intro _;rfl):PE X (.DictComp E G [⟨j,B,i,0⟩] sc pos) (tDC C own.length outs g tc λD=>yF D F J):=by
 intro a s N H Q I h;rw[arm_eval_DictComp];refine sY t S hi (λD L w=>rG) (λd a s H=>⟨(f d a s H).1,(f d a s H).2.1,λD w=>rY (f d a s H).2.2.1 (f d a s H).2.2.2⟩) r I h λD c l p A u n k z M y m q=>⟨l,n,λO v=>⟨.ref D,p,u.turned (λb o f e=>(v.2 b f).trans e) k z.symm (.inr M) y m,U,q⟩⟩
def F4 (r:KV kvs vs):∀ {i:Nat} {x:Key×V},kvs[i]?=some x->∃ v,vs[i]?=some (x.1,v)/\bh x.2 v:=by
 induction r with
 | nil=>intro i x c;cases c
 | @cons a b xs ys h _ ih =>
  intro i x c;cases i with
  | zero=>cases c;exact⟨b.2,by rw[h.1];rfl,h.2⟩
  | succ i=>exact ih c
def zB (h:(aI P w).is k u=true):bh (kV k) u:=by
 cases k with
 | inl i=>exact Value.isInt_shape h
 | inr s=>exact Value.isStrOf_shape h
def Iti (P:Program) (w:World) (d:Addr) (o:Obj) (kvs:List (Key×V)):It:=⟨λi H=>i<kvs.length/\H d=some (DKo P w d o kvs),λi H v H'=>∃ t x,v=.ref t/\H t=none/\H'=upd H t (.tup [kV x.1,x.2])/\kvs[i]?=some x,λi H=>kvs.length<=i/\H d=some (DKo P w d o kvs)⟩
def qu {P:Program} {w:World} {K:Fg} {Ic:List Expr} {k} {pos:Pos} (j d:Addr) (o:Obj) (kvs:List (Key×V)) {D:Array DictEntry} {ep:Nat} (O:o.data=.dict D ep) :
 kh P w K (.Tuple Ic k pos) (Iti P w d o kvs) [j] j (λi h=>∃ a y,IsItemIter h j d i kvs.length ep a y) where
 mem:=by simp
 obj:=λi h m b g=>by
  have e:b=j:=by simpa using g
  subst e;obtain⟨a,y,e⟩:=m;exact⟨_,e,λv z=>by cases z⟩
 keep:=λi h h' m k=>by
  obtain⟨a,y,e⟩:=m;exact⟨a,y,k j ?B _ e⟩
 item:=by
  intro X hP hw hK f i t s σ H E I Q m hg;subst hP hw hK;obtain⟨e0,e1,e2,e3,e4,e5⟩:=Q j ?B;obtain⟨hi,hH⟩:=hg;obtain⟨G,z,hsy,vs,l,o2,Z,T,L,S,J,h4,h5,R⟩:=jG I.hok hH;rw[G] at L;cases L;rw[O] at J;cases J;obtain⟨a,y,A⟩:=m;have c:=l.length.symm;have hx:=gEE hi;obtain⟨u,hu,ru⟩:=F4 l hx;rw[<- c] at A;refine wpAny_pyNext_items_item A ⟨o,D,G,S,O,h4,h5,R⟩ hu λkey h' M F hT hsz hk=>?_;refine⟨_,U,wpAny_letOwnedTupleGo_items F λh2' JK N=>?_⟩;have B:=λb o q1 z=>(N.2 b q1).trans (hk b o q1 z);have J0:=Heap.lt_size A;have Y:=(N.2 _ (Nat.ne_of_gt J0)).trans hT;have JJ:=I.hok.fresh ?M;have C:∀ {b:Addr} {o:HO},H b=some o->b≠s.heap.objs.size:=λ{b o} q z=>by rw[z,JJ] at q;cases q
  have ne:∀ {b:Addr} {o:HO},H b=some o->b≠j:=λ{b o} q z=>by rw[z,e0] at q;cases q
  have x:∀ {b:Addr},b∉[j]->b≠j:=λ{b} z q=>z (by simp[q]);have I2:Inv X t σ (upd H s.heap.objs.size (.tup [kV kvs[i].1,kvs[i].2])) {s with heap:=h2',toks:=s.toks}:=by
   refine I.step (g':=s.gens) (d':=s.drawn) (ch:=[j]) (λb g=>?_) (λb o _ _ f z _=>B b o (x f) z) (λb o _ _ f z _=>⟨o.slots,B b o (x f) z⟩) (λb o _ z n=>by rw[ai (Nat.ne_of_lt (Heap.lt_size z))];exact n)
    (λb o f z=>⟨o,B b o (x f) z⟩) (λb xs z=>by rw[ai (C z)];exact z) (λb o u z=>by rw[ai (C z)];exact z) (λb ps z=>⟨#[],by rw[ai (C z),z];simp⟩) (λm hm=>?_) (λb o z=>?_) I.bare
   · cases mSg.mp g;exact⟨e3,e1,e4,e5⟩
   · obtain⟨o,D,ep,Ii,r⟩:=hm;exact⟨o,D,ep,B _ o (Ne.symm e1) Ii,r⟩
   · by_cases g:b=s.heap.objs.size
     · rw[g,pF] at z;cases z;rw[g];exact⟨jk,[key,u],.cons (zB M) (.cons ru .nil),⟨_,Y,U,_,U⟩⟩
     · rw[ai g] at z;refine (I.hok b o z).stay (λc v f p=>?_) (λc p=>by rw[ai (C p)];exact p) λc xs p=>by rw[ai (C p)];exact p
       rcases f with rfl | f
       · exact B _ _ (ne z) p
       · exact B _ _ (ne f) p
  refine⟨.ref s.heap.objs.size,_,I2,U,⟨_,_,U,JJ,U,hx⟩,⟨_,_,by rw[c] at JK;exact JK⟩,λb g=>?_⟩;have Kk:b<s.heap.objs.size:=by
   cases mSg.mp g;exact J0
  rw[ai (Nat.ne_of_lt Kk)];exact (Q b g).1
 done:=by
  intro X hP hw hK f i t s σ H E I Q m hg;subst hP hw hK;obtain⟨f0,f1,f2,f3,f4,f5⟩:=Q j ?B;obtain⟨hi,hH⟩:=hg;obtain⟨G,z,hsy,vs,l,o2,Z,T,L,S,J,h4,h5,R⟩:=jG I.hok hH;rw[G] at L;cases L;rw[O] at J;cases J;obtain⟨a,y,A⟩:=m;have c:vs.length=kvs.length:=l.length.symm;rw[<- c] at A;exact wpAny_pyNext_items_end (knd:=aI X.prog X.w) (I.ok.hd f) A ⟨o,D,G,S,O,h4,h5,R⟩ (List.getElem?_eq_none ?A) λh' eb=>⟨U,I.turned (t':=s.toks) (λb o g e=>eb b o g e) f0 f1 f3 f4 f5⟩
 self:=λ_ _ _ _ _ m h=>by
  obtain⟨a,y,e⟩:=m;exact PySem.W.kcp_self e h
def Cc (P:Program) (w:World) (tl:TE):TI:=λσ H R=>tl σ H λv H1=>∃ d kvs,v=.ref d/\H1 d=some (.dK kvs)/\∀ o,R (Iti P w d o kvs) (upd H1 d (DKo P w d o kvs))
def wn {P:List Expr} {k} {p M J:Pos} (S:PE X l tl) (HV:attributeBase l "items" X.env (eval l X.env)=eval l X.env:=by rfl) (Y:(M.endLine==J.line)=true:=by rfl):
 PI X (.Tuple P k p) (.Call (.Attribute l "items" M) [] [] J) (Cc X.prog X.w tl):=by
 intro r s σ H R I h;refine wpAny_Call_method0_late HV Y (thn (S r s σ H _ I h) λv g z=>?_);obtain⟨y,H1,K,r1,d,x,ey,L,q⟩:=z;subst ey;obtain rfl:v=Value.ref d:=r1;have m:=ij K.hok L;obtain⟨z,O,Z,u,o,E,W,i,t,A,C,N,D⟩:=id m;have G:g.TypeIs (.ref d) "dict":=⟨o,i,t.1⟩;refine⟨"dict","dict.items",PySem.F.plainAttrs_dict,PySem.F.slot_dict_items,PySem.F.type_dict_items,G,?_,?_⟩
 · intro a e;cases e;exact⟨o,i,t.2.1⟩
 · refine Calls.callWith_builtin U (PySem.evalArgs_none ?_);refine call_meetsIn PySem.F.slot_dict_items G PySem.F.entry_dict_items (PySem.F.args_dict_items_1 _) (meets_dict_items (aI X.prog X.w) d O) ⟨⟨Z,o,E,W,i,t,A,C,N,D⟩,?_⟩;have B:=dG (t':=g.toks) K (by rw[L];exact True.intro) ⟨U,λ_ _=>rfl⟩ ⟨o,i⟩ (xG i m);have Q:(g.heap.push {cls:=.type "dict_items",data:=.fields #[.ref d]}).IsItemsView g.heap.objs.size d:=⟨_,Heap.get?_push_size _ U,U,U⟩;refine wpAny_pyIter_items Q ⟨o,E,hpS _ i,t,A,C,N,D⟩ ?_;have j:=u.length.symm;refine⟨_,[(g.heap.push {cls:=.type "dict_items",data:=.fields #[.ref d]}).objs.size],_,_,_,U,B.kept λb o e=>hpS _ (hpS _ e),qu _ d o x A,⟨.none,.none,by rw[<- j];exact Heap.get?_push_size _ U⟩,λb hb=>?_,q o⟩;have e:b=(g.heap.push {cls:=.type "dict_items",data:=.fields #[.ref d]}).objs.size:=by simpa using hb
   subst e;have n:g.heap.objs.size<=(g.heap.push {cls:=.type "dict_items",data:=.fields #[.ref d]}).objs.size:=by rw[Heap.size_push];exact Nat.le_succ _
   exact B.fpOk n (B.hok.fresh n)
end L2
namespace K13
open PySem L2 PySem.Spec PyProof.Rows PySem.SeqAt
structure eY (kvs:List (Key×V)) (kn:Kn) (n:Nat):Prop where
  nd:(kvs.map (·.1)).Nodup
  ky:∀ p∈kvs,∃ (i:Int) (w:Str),p=(.inl i,.str w)
  val:∀ x:Int,(eM kn n x=false->bd kvs (.inl x)=none)/\(eM kn n x=true->∃ w:Str,bd kvs (.inl x)=some (.str w)/\decide (w="var")=iM kn n x)
def jI (kn:Kn) (n:Nat):Prop:=∀ x v a,kn x=some (v,a)->a<=n
def u9 (kvs:List (Key×V)) (k:Key) (v:V) (h:(kvs.map (·.1)).Nodup):((cr kvs k v).map (·.1)).Nodup/\∀ p∈cr kvs k v,p∈kvs\/p=(k,v):=by
 cases e:bd kvs k with
 | none =>
  rw[kZ v e];refine⟨?_,λp d=>by rcases mAp.mp d with z | z;exact .inl z;exact .inr (mSg.mp z)⟩;rw[List.map_append,List.nodup_append];refine⟨h,by simp,λa m b i=>?_⟩;obtain⟨p,d,rfl⟩:=List.mem_map.mp m;rw[List.mem_map] at i;obtain⟨q,j,rfl⟩:=i;rw[mSg.mp j];intro z;have c:=cy k kvs;rw[e] at c;have g:(kvs.any λa=>decide (a.1=k))=true:=List.any_eq_true.mpr ⟨p,d,decide_eq_true z⟩;rw[c] at g;cases g
 | some u =>
  have c:(kvs.any λa=>decide (a.1=k))=true:=by rw[cy,e];rfl
  unfold cr;rw[if_pos c];refine⟨?_,λp d=>?_⟩
  · grind
  · grind
def lM (kn:Kn) (v:Bool) (a:Nat) (i:Int):Kn:=λx=>if x=i then some (v,a) else kn x
def kX (kn:Kn) (v:Bool) (a:Nat):∀ (l:List Int) (i:Int) ,cS kn v a (l++[i])=lM (cS kn v a l) v a i:=by
 intro l
 induction l generalizing kn with
 | nil=>intro i;rfl
 | cons x r b=>intro i;exact b (lM kn v a x) i
def eY.put (s:eY kvs kn n) (i:Int) (w:Str):eY (cr kvs (.inl i) (.str w)) (lM kn (decide (w="var")) n i) n:=by
 obtain⟨b,f⟩:=u9 kvs (.inl i) (.str w) s.nd;refine⟨b,λp g=>?_,λx=>?_⟩
 · rcases f p g with z | rfl
   · exact s.ky p z
   · exact⟨i,w,U⟩
 · rw[dh];by_cases e:x=i
   · subst e;have a:lM kn (decide (w="var")) n x x=some (decide (w="var"),n):=if_pos rfl;rw[if_pos U];refine⟨λz=>?_,λ_=>⟨w,U,?_⟩⟩
     · unfold eM at z;rw[a] at z;simp at z
     · unfold iM;rw[a];simp
   · have a:lM kn (decide (w="var")) n i x=kn x:=if_neg e;rw[if_neg (by intro z;cases z;exact e U)];unfold eM iM;rw[a];exact s.val x
def jI.put (h:jI kn n) (v:Bool):∀ (l:List Int),jI (cS kn v n l) n:=by
 intro l
 induction l generalizing kn with
 | nil=>exact h
 | cons i r b =>
  refine b λx c a e=>?_;unfold lM at e;split at e
  · cases e;exact Nat.le_refl _
  · exact h x c a e
def jI.up (h:jI kn n):jI kn (n+1):=λx v a e=>Nat.le_succ_of_le (h x v a e)
def i9 (p:Key×V):Bool:=!decide (p.2=.str "var")
def oG (q:Key×V->Bool):∀ {kvs:List (Key×V)},(kvs.map (·.1)).Nodup->∀ k,bd (kvs.filter q) k=(bd kvs k).filter λv=>q (k,v):=by
 intro kvs
 induction kvs with
 | nil=>intro _ k;rfl
 | cons p r c =>
  intro h k;obtain⟨g,b⟩:=List.nodup_cons.mp (show (p.1::r.map (·.1)).Nodup from h);have f:p.1=k->bd r k=none:=λe=>by
   cases z:bd r k with
   | none=>rfl
   | some v =>
    have d:=cy k r;rw[z] at d;obtain⟨y,j,m⟩:=List.any_eq_true.mp d;exact absurd (List.mem_map.mpr ⟨y,j,(of_decide_eq_true m).trans e.symm⟩) g
  by_cases e:p.1=k
  · have n:=f e;subst e;rw[ce U,List.filter_cons];cases i:q p with
    | true =>
     rw[if_pos U,ce U];show _=if q (p.1,p.2)=true then some p.2 else none
     rw[if_pos i]
    | false =>
     rw[if_neg ?G,c b,n];show none=if q (p.1,p.2)=true then some p.2 else none
     rw[if_neg (by grind)]
  · have a:∀ l:List (Key×V),bd (p::l) k=bd l k:=λl=>by
     unfold bd;rw[List.find?_cons_of_neg (by simpa using e)]
    rw[a,List.filter_cons];split
    · rw[a];exact c b k
    · exact c b k
def eY.fun_ (s:eY kvs kn n) (k:jI kn n):eY (kvs.filter i9) kn (n+1):=by
 refine⟨s.nd.sublist (List.Sublist.map _ List.filter_sublist),λp j=>s.ky p (List.mem_filter.mp j).1,λx=>?_⟩;rw[oG i9 s.nd];obtain⟨d,b⟩:=s.val x;unfold eM at d b ⊢;unfold iM at b ⊢;cases e:kn x with
 | none =>
  rw[e] at d;rw[d U];exact⟨λ_=>rfl,λz=>(by cases z)⟩
 | some p =>
  obtain⟨v,a⟩:=p;rw[e] at d b;have l:=k x v a e;have h:¬ (a=n+1):=by omega
  dsimp only at d b ⊢;rw[decide_eq_false h];cases v with
  | false =>
   obtain⟨w,f,c⟩:=b rfl;rw[f];refine⟨λz=>(by cases z),λ_=>⟨w,?_,c⟩⟩;have g:w≠"var":=λz=>by rw[z] at c;cases c
   show (if i9 (.inl x,.str w)=true then some (V.str w) else none)=_;rw[if_pos];unfold i9;simp[g]
  | true =>
   refine⟨λ_=>?_,λz=>(by cases z)⟩;by_cases i:a=n
   · rw[decide_eq_true i] at b;obtain⟨w,f,c⟩:=b rfl;rw[f];have g:=of_decide_eq_true c;rw[g];rfl
   · grind
def iq (kvs:List (Key×V)) (w:Str):List Int->List (Key×V)
  | []=>kvs
  | i::r=>iq (cr kvs (.inl i) (.str w)) w r
def mn (kvs:List (Key×V)) (w:Str):∀ (l:List Int) (i:Int),iq kvs w (l++[i])=cr (iq kvs w l) (.inl i) (.str w):=by
 intro l
 induction l generalizing kvs with
 | nil=>intro i;rfl
 | cons x r a=>intro i;exact a _ i
def iP (kvs:List (Key×V)) (w:Str) (l:List Int):(iq kvs w l).length<=kvs.length+l.length:=by
 induction l generalizing kvs with
 | nil=>exact Nat.le_refl _
 | cons i r a =>
  have c:=a (cr kvs (.inl i) (.str w));have b:=bS kvs (.inl i) (.str w);show (iq (cr kvs (.inl i) (.str w)) w r).length<=kvs.length+(r.length+1);omega
def eY.puts (w:Str):∀ (l:List Int) {kvs:List (Key×V)} {kn:Kn},eY kvs kn n->eY (iq kvs w l) (cS kn (decide (w="var")) n l) n:=by
 intro l
 induction l with
 | nil=>intro kvs kn s;exact s
 | cons i r a=>intro kvs kn s;exact a (s.put i w)
def Ds:eY [] (λ_=>none) 0:=⟨List.nodup_nil,λp a=>(by cases a),λx=>⟨λ_=>rfl,λz=>(by cases z)⟩⟩
def aV.zipM {K:Fg} {a b:Addr} {xs ys:List V} {g:TG} {C:TS} {d:L2.St->Hp->Prop} {r:VK} {k c:L2.St->Hp->Prop} {e:L2.St} {H:Hp} (D:xs.length=ys.length) (h:Nat->L2.St->Hp->Prop) (F:h 0 e H) (G:∀ i e H,i<=xs.length->h i e H->SqT K H a xs/\SqL K H b ys)
 (I:∀ i x y e H t (N B:L2.St->Hp->Prop),(∀ f l,h (i+1) f l->N f l)->xs[i]?=some x->ys[i]?=some y->h i e H->H t=none->g (.ref t) e (upd H t (.tup [x,y])) λs J=>C ⟨N,r,B,N⟩ s J) (L:∀ e H,h xs.length e H->d e H):aV (Aa K a b) g C ⟨d,r,k,c⟩ e H:=by
 refine⟨λi m e H=>i<=xs.length/\m=xs.length-i/\h i e H,⟨_,Nat.zero_le _,U,F⟩,λi m e H z=>?_⟩;obtain⟨M,O,u⟩:=z;obtain⟨w,A⟩:=G i e H M u;by_cases j:i<xs.length
 · have o:i<ys.length:=by omega
   refine .inr ⟨⟨xs,ys,xs[i],ys[i],w,A,by simp[j],by simp[o]⟩,λf l=>h (i+1) f l,λf l q=>⟨xs.length-(i+1),by rw[O];exact Nat.sub_succ_lt_self _ _ j,j,U,q⟩,?_⟩;rintro v l ⟨t,x,y,rfl,P,rfl,Q,R⟩;exact I i x y e H t _ _ (λ_ _ z=>z) (Q xs w) (R ys A) u P
 · have:i=xs.length:=by omega
   subst this;exact .inl ⟨⟨xs,ys,w,A,.inl ?M⟩,L e H u⟩
inductive Prs (K:Fg) (H:Hp):List V->List (PyData×Addr)->Prop
  | nil:Prs K H [] []
  | cons {t m:Addr} {x:V} {d:PyData} {zs:List V} {ps:List (PyData×Addr)} (h:H t=some (.tup [x,.ref m])) (td:BD K H x d) (r:Prs K H zs ps):Prs K H (.ref t::zs) ((d,m)::ps)
def Prs.snoc {K:Fg} (h:Prs K H zs ps) (g:H t=some (.tup [x,.ref m])) (f:BD K H x d):Prs K H (zs++[.ref t]) (ps++[(d,m)]):=by
 induction h with
 | nil=>exact .cons g f .nil
 | cons a b c e=>exact .cons a b e
def Prs.app {K:Fg} (h:Prs K H zs ps) (h':Prs K H zs' ps'):Prs K H (zs++zs') (ps++ps'):=by
 induction h with
 | nil=>exact h'
 | cons a b c d=>exact .cons a b d
def Prs.length {K:Fg} (h:Prs K H zs ps):zs.length=ps.length:=by
 induction h with
 | nil=>rfl
 | cons a b c d=>rw[List.length_cons,List.length_cons,d]
def Prs.keep {K:Fg} (h:Prs K H zs ps) (e:∀ b d,H b=some (.tup d)->H' b=some (.tup d)) (tk:Kp H H'):Prs K H' zs ps:=by
 induction h with
 | nil=>exact .nil
 | cons a b c f=>exact .cons (e _ _ a) (b.kp tk) f
def Prs.same {K:Fg} (h:Prs K H zs ps) (e:aA H H'):Prs K H' zs ps:=h.keep (λb a z=>e _ _ z) (nM e)
def Prs.put {K:Fg} {H:Hp} {zs:List V} {ps:List (PyData×Addr)} (h:Prs K H zs ps) {L:Addr} {xs:List V} {ys:List V} (hL:H L=some (.lst ys)):Prs K (upd H L (.lst xs)) zs ps :=
 h.keep (λb xs z=>by rw[ai λe=>by rw[e,hL] at z;cases z];exact z) (cK (.inr ⟨_,hL⟩))
def Prs.last {K:Fg} (h:Prs K H zs (ps++[p])):∃ d t x,zs=d++[.ref t]/\Prs K H d ps/\H t=some (.tup [x,.ref p.2])/\BD K H x p.1:=by
 induction ps generalizing zs with
 | nil=>cases h with | cons a b c=>cases c;exact⟨[],_,_,U,.nil,a,b⟩
 | cons e r i =>
  cases h with
  | cons a b c =>
   obtain⟨d,t,x,rfl,f,g,j⟩:=i c;exact⟨_::d,t,x,U,.cons a b f,g,j⟩
def scp (mo mi:Addr) (ks:PDs):List (PyData×Addr):=ks.mapIdx λk x=>(x,if k+1=ks.length then mi else mo)
def vM (h:ks[k]?=some x):(scp mo mi ks).take (k+1)=(scp mo mi ks).take k++[(x,if k+1=ks.length then mi else mo)]:=by
 rw[tAO];congr 1;unfold scp;rw[List.getElem?_mapIdx,h];rfl
section
variable {P:Program} {w:World} {K:Fg} {mg:SOV} {base:Heap}
abbrev sSc:Stmt:=top 33
abbrev nSc:List Str:=["e","outer","inner","children","last"]
inductive AK (K:Fg) (vs:List V) (H:Hp) (Q:VK):Prop
  | mk (v:V) (mo mi:Addr) (d:PyData) (Iy:vs=[v,.ref mo,.ref mi]) (Ik:BD K H v d) (IZ:cB d=true) (g4_:wt d<=90000) (Jn:∀ L zs H',aA H H'->H L=none->H' L=some (.lst zs)->Prs K H' zs (scp mo mi (bw d))->Q (.ref L) H'):AK K vs H Q
def D6 (K:Fg):Sp:=λvs H Q _=>AK K vs H Q
def Dx:aM nSc ["e","outer","inner"] (ad sSc):=fsM
def EW:(["number","child","inner","outer","last"]:List Str).Nodup:=by left
def Ek (D:Def K mg "scoped_children" sSc) (T:Blt K mg) (fQ:Fn P w K mg base "children_of" 1 ["e"] (Bp K)):Fn P w K mg base "scoped_children" 2 ["e","outer","inner"] (D6 K):=by
 refine D.fn Dx ?P (λ_ _ _ _ _ _ us hl=>by obtain⟨a,b,c,rfl⟩:=gG hl;rfl) (λf kb A k s' H vs Q E hr h=>?_)
 · obtain⟨v,y,j,d,rfl,_⟩:=h;rfl
 · obtain⟨v,y,j,d,rfl,td,ndd,J7,q⟩:=h;have nd:=Dx.nd;ext c
   refine⟨_,(pE (pN (i:=3) nd U ?D (aB fQ ?S U (pA ?C pC)))
 (pE (pN (i:=4) nd U (Or.inr U) (aT dX (bq T.len (pA (pv 3) pC)) pG))
 (pH (ak (cO (own:=["number","child"]) (outs:=[(2,"inner"),(1,"outer"),(4,"last")]) (g:=ph K 2 (fD (cP 0) (fD (cP 1) pi))) U (aG.of (ad sSc) nSc) (l7 U T.enumerate (pA (pv 3) pC)) (λ_ _ _ _=>⟨(cv (n:=2) U (aF (ax (i:=0) EW U ?D (Or.inr U)) (aF (ax (i:=1) EW U ?D (Or.inr U)) bI))),bC,(aN (pA ?E (pA (l8 (pP aZ ?C (pv 4) (pQ _)) (pv 2) (pv 3)) pC)))⟩)))))),?_⟩
   ext b;refine ab λjP f9=>?_;refine⟨_,U,v,d,U,td,ndd,J7,λv1 H1 k1 t1=>?_⟩;obtain⟨c,O,rfl,hc,C⟩:=t1.tup_of;refine f9 _ _ (ab λjx fC=>?_);refine⟨_,U,c,O,U,.inr hc,_,_,U,U,?_⟩;refine fC _ _ ?_;rw[gr,bU];refine⟨_,U,c,O,U,hc,λL N=>?_⟩;have Y:=C.length;have hH:H L=none:=by
    cases e:H L with
    | none=>rfl
    | some o=>rw[k1 _ _ e] at N;cases N
   refine bj.enumT (xs:=O) (λi σ s=>aA H1 s/\(∃ r,s L=some (.lst r)/\Prs K s r ((scp y j (bw d)).take i))/\∃ S x1,σ=[S,x1,some (.ref j),some (.ref y),some (.int ((O.length:Nat)-1))]) ⟨smu N,⟨[],pF,.nil⟩,_,_,U⟩ (λi σ s _ z=>z.1.seqT hc) ?_ ?_
   · rintro i x σ s t Ih ⟨sm,⟨r,W,J⟩,S,x1,rfl⟩ ht;obtain⟨dx,Kg,tdx⟩:=C.get Ih;have R:=smu (o:=HO.tup [V.int ?J,x]) ht;ext o;generalize upd s t (.tup [V.int ?J,x])=H3 at R ⊢;have G:=sm.trans R;rw[fq];refine aJ ?_;refine⟨_,U,_,U,_,U,U,_,U,?_⟩;have u:∀ m,m=(if i+1=(bw d).length then j else y)->(2<=sizeLine/\∀ p,H3 p=none->∃ f,(upd H3 p (.tup [x,.ref m])) L=some (.lst f)/\f.length<sizeLine/\(aA H1 (upd (upd H3 p (.tup [x,.ref m])) L (.lst (f++[.ref p])))/\(∃ r,(upd (upd H3 p (.tup [x,.ref m])) L (.lst (f++[.ref p]))) L=some (.lst r)/\Prs K (upd (upd H3 p (.tup [x,.ref m])) L (.lst (f++[.ref p]))) r ((scp y j (bw d)).take (i+1))))):=by
      rintro m rfl;refine⟨by decide,λp M=>?_⟩;have B:=smu (o:=HO.tup [x,.ref (if i+1=(bw d).length then j else y)]) M;have F:(upd H3 p (.tup [x,.ref (if i+1=(bw d).length then j else y)])) p=some (.tup [x,.ref (if i+1=(bw d).length then j else y)]):=pF;generalize upd H3 p (.tup [x,.ref (if i+1=(bw d).length then j else y)])=H4 at B F ⊢;have I:=B _ _ (R _ _ W);have hzl:=J.length;have hf:(bw d).length<=90000:=by have h1:=cN (bw d);have h2:=(jA d).1;omega
      have hlt:=(gES.mp Kg).1;rw[lTk] at hzl;refine⟨r,I,by omega,aK (G.trans B) N,_,pF,?_⟩;rw[vM Kg];have z5:=(J.same (R.trans B)).snoc F (tdx.same (G.trans B));exact z5.put I
     by_cases l:i+1=(bw d).length
     · refine pK ?Q ?_;obtain⟨Z,z2⟩:=u j (by rw[if_pos l]);exact⟨_,U,Z,λp M=>by obtain⟨f,a,b,c,d'⟩:=z2 p M;exact⟨f,a,b,c,d',_,_,U⟩⟩
     · refine pJ ?Q ?_;obtain⟨Z,z2⟩:=u y (by rw[if_neg l]);exact⟨_,U,Z,λp M=>by obtain⟨f,a,b,c,d'⟩:=z2 p M;exact⟨f,a,b,c,d',_,_,U⟩⟩
   · rintro σ s ⟨sm,⟨r,W,J⟩,S,x1,rfl⟩;rw[Y,show (bw d).length=(scp y j (bw d)).length by unfold scp;rw[List.length_mapIdx],List.take_length] at J;exact q L r s (k1.trans sm) hH W J
abbrev sWe:Stmt:=top 34
abbrev nWe:List Str:=["table","ids","told","entries","number","thing"]
inductive AH (K:Fg) (vs:List V) (H:Hp) (Q:VK):Prop
  | mk (m l:Addr) (v1:V) (is:List Int) (w:Str) (kvs:List (Key×V)) (Iy:vs=[.ref m,v1,.ref l]) (Ik:H m=some (.dK kvs)) (IZ:BD K H v1 (.tuple (is.map .int))) (Jn:H l=some (.lst (List.replicate is.length (.str w)))) (g5_:kvs.length+is.length<=900000) (g6_:∀ D H',aA H H'->H' D=some (.dK (iq kvs w is))->Q (.ref D) H'):AH K vs H Q
def D4 (K:Fg):Sp:=λvs H Q _=>AH K vs H Q
def Du:aM nWe ["table","ids","told"] (ad sWe):=fsM
def Eh (D:Def K mg "with_entries" sWe) (T:Blt K mg):Fn P w K mg base "with_entries" 1 ["table","ids","told"] (D4 K):=by
 refine D.fn Du ?P (λ_ _ _ _ _ _ us hl=>by obtain⟨a,b,c,rfl⟩:=gG hl;rfl) (λf kb A M s' H vs Q E hr h=>?_)
 · obtain⟨m,l,v1,n,j,e,rfl,_⟩:=h;rfl
 · obtain⟨m,l,v1,n,j,e,rfl,z,t1,B,hsz,q⟩:=h;obtain⟨a,C,rfl,N,hx⟩:=t1.tup_of;have O:=Du.nd;have hu:=dN hr;ext d
   have f:=hx.length;rw[lMp] at f;refine⟨_,(pE (aE (aU (gK ?E (by intro _;rfl))) (pH (ak ?C)) am)
 (pE (pN (i:=3) O U ?D (tK T.dict (pA ?C pC)))
 (pE (cu PassesOwn.never U (z8 U T.zip (pA ?E (pA (pv 2) pC))) (cv U (aF (ax (i:=4) O U ?D) (aF (ax (i:=5) O U ?D) bI)))
 (pH (dr hu (pv 3) (pv 4) (pv 5) U)))
 (pH (ak (pv 3)))))),?_⟩
   ext b;refine ab λjP f9=>?_;refine⟨_,U,_,.inr (.inl ⟨C,N,U⟩),?_⟩;by_cases JS:n=[]
   · subst JS;have R:C=[]:=List.eq_nil_of_length_eq_zero f;subst R;exact pK U ⟨_,U,q m H (aA.refl _) z⟩
   · have R:(!(!C.isEmpty))=false:=by
      cases C with
      | nil=>exact absurd (List.eq_nil_of_length_eq_zero f.symm) JS
      | cons x r=>rfl
     refine pJ (by rw[R];decide) ?_;ext q;refine⟨_,U,m,e,U,z,λp hp=>?_⟩;ext h;have J:=smu (o:=HO.dK e) hp;have F:(upd H p (.dK e)) p=some (.dK e):=pF;generalize upd H p (.dK e)=H1 at J F ⊢;refine⟨_,U,_,U,a,l,_,_,U,J.seqT N,SqL.of (J _ _ B),?_⟩;show aV _ _ _ _ _ _;refine aV.zipM (xs:=C) (ys:=List.replicate n.length (.str j)) (by rw[List.length_replicate];exact f) (λk L u=>aA H u/\u p=some (.dK (iq e j (n.take k)))/\∃ S W,L=[some (.ref m),some (.ref a),some (.ref l),some (.ref p),S,W])
      ⟨J,F,_,_,U⟩ ?_ ?_ ?_
     · rintro k L u _ ⟨v,_,_⟩;exact⟨v.seqT N,SqL.of (v _ _ B)⟩
     · rintro k x y L u t N_ B_ Y Z hyk ⟨v,g,S,W,rfl⟩ ht;obtain⟨d,G,hd⟩:=hx.get Z;rw[gEM] at G;obtain⟨i,hi,rfl⟩:=oMS.mp G;obtain rfl:=hd.int_of;obtain rfl:y=.str j:=by
        have:=mGE hyk;exact List.eq_of_mem_replicate this
       have k3:=smu (o:=HO.tup [V.int i,V.str j]) ht;have hp3:=k3 _ _ g;have I:(iq e j (n.take k)).length<sizeLine:=by
        have h1:=iP e j (n.take k);rw[lTk] at h1;omega
       ext o;refine⟨_,U,_,U,_,U,p,_,U,gY.k (k:=.inl i) hp3 I,Y _ _ ⟨aK (v.trans k3) hp,?_,_,_,U⟩⟩;rw[tAO,hi,Option.toList_some,mn];exact pF
     · rintro L u ⟨v,g,S,W,rfl⟩;rw[f,List.take_length] at g;exact gH _ _ ⟨_,U,q p u v g⟩
abbrev sHp:Stmt:=top 35
inductive AX (K:Fg) (vs:List V) (H:Hp) (Q:VK):Prop
  | mk (v:V) (l:PDs) (i:Int) (h0:vs=[v,.int i]) (h1:BD K H v (.tuple l)) (q:Q (.bl (plc l i).isSome) H):AX K vs H Q
def Dh (K:Fg):Sp:=λvs H Q _=>AX K vs H Q
def oR {l:List α}:(plc l i).isSome=(decide (0<=i)&&decide (i<l.length)):=by
 unfold plc;by_cases h:0<=i
 · grind
 · grind
def ED (D:Def K mg "has_place" sHp) (T:Blt K mg):Fn P w K mg base "has_place" 1 ["row","number"] (Dh K):=by
 refine D.fn (N:=["row","number"]) fsM ?P (λ_ _ _ _ _ _ n f=>by obtain⟨a,b,rfl⟩:=f8 f;rfl) (λf o A c s H m Q E k h=>?_)
 · obtain⟨v,l,i,rfl,_⟩:=h;rfl
 · obtain⟨v,l,i,rfl,e,q⟩:=h;obtain⟨a,d,rfl,g,j⟩:=e.tup_of;rw[oR] at q;refine⟨_,(pH (ak (gM fV gN pG ?E (bq T.len (pA ?C pC))))),?_⟩;refine⟨_,U,_,_,U,U,_,U,?_⟩;by_cases h:0<=i
   · rw[decide_eq_true h] at q ⊢;refine aJ ⟨_,U,a,d,U,.inr g,_,_,U,U,?_⟩;rw[j.length];exact q
   · grind
abbrev sCc:Stmt:=top 36
inductive B3 (K:Fg) (vs:List V) (H:Hp) (Q:VK):Prop
  | mk (v:V) (h:Str) (c k:Int) (b:PyData) (h0:vs=[v,.int k]) (h1:BD K H v (.tuple [.str h,.int c,b])) (q:Q (.bl (!(decide (h="open"))&&decide (c=k))) H):B3 K vs H Q
def Do (K:Fg):Sp:=λvs H Q _=>B3 K vs H Q
def EO (D:Def K C "can_be_called" sCc):Fn P w K C B "can_be_called" 1 ["function","many"] (Do K):=by
 refine D.fn (N:=["function","many"]) fsM (λF H Q E h=>?_) (λ_ _ _ _ _ _ p l=>by obtain⟨a,b,rfl⟩:=f8 l;rfl) (λf t A d s H n Q E o h=>?_)
 · obtain⟨v,h,c,k,b,rfl,_⟩:=h;rfl
 · obtain⟨v,h,c,k,b,rfl,i,q⟩:=h;obtain⟨a,x,y,z,rfl,f,m,j,r⟩:=gD i;obtain rfl:=m.str_of;obtain rfl:=j.int_of;refine⟨_,(pH (ak (cJ (bL fz ?I pD (pQ _)) (de (bL aZ ?I ?E (pQ _)))))),?_⟩;refine⟨_,U,a,_,0,_,U,U,f,pI U,U,_,U,?_⟩;by_cases e:h="open"
   · grind
   · rw[decide_eq_false e,Bool.not_false,Bool.true_and] at q;refine pK (by simp[e]) ⟨_,U,a,_,1,_,U,U,f,pI U,_,U,U,?_⟩;have g:(decide (V.int c=V.int k))=decide (c=k):=by simp
     rw[g];exact q
end
end K13
namespace L2
open PySem PySem.Spec PyProof.Rows
set_option maxHeartbeats 8000000 in
def BA {X:Cx} {kx vx tg iter:Expr} {ifs:List Expr} {sc:Scope} {pos spos py:Pos} {i0:Nat} {y0:Str} {wi:TI} {g:TG} {tc:TT} {tk tv:TE} {own:List Str} {outs:List (Nat×Str)} (hc:X.calm=true) (S:aG X sc own outs) (hi:PI X tg iter wi)
 (hb:∀ (fp:List Addr) (pins:AOs) (s:Shared) (H:Hp),PG ?Aa tg g /\
   oz ?Aa ifs tc/\PE ?Aa kx tk/\PE ?Aa vx tv)
 (hN:X.N.Nodup) (hi0:X.N[i0]?=some y0) (Jv:X.env.scope.names.lookup y0=some .local) (hsw:swapsWith (.DictComp kx vx [⟨tg,iter,ifs,0⟩] sc pos) (some (.Name y0 py)) spos.line X.env=pure true:=by rfl)
 (hs:∀ x,foldedSetIterable iter X.env x=pure x:=by intro _;rfl):PS X (.Assign [.Name y0 py] (.DictComp kx vx [⟨tg,iter,ifs,0⟩] sc pos) spos) (vw (CS X.prog X.w (tDC wi own.length outs g tc λD=>yF D tk tv)) (cP i0)):=by
 intro pins s σ H DD I h;replace h:tDC wi own.length outs g tc (λD=>yF D tk tv) σ H (λv H1=>∃ d o kvs,H1 d=some (DKo X.prog X.w d o kvs)/\cP i0 v σ (upd H1 d (.dK kvs)) DD.nx):=h;rw[exec_Assign_Name_used _ _ _ _ hsw];refine wB (wpAny_standAt (wB ?_));show wpAny _ X.A (do let _ <- comprehension (.DictComp kx vx [⟨tg,iter,ifs,0⟩] sc pos) sc X.env _ newDict false (eval iter X.env) (some (assign (.Name y0 py) X.env))) _ _ s;refine wB (wpAny_mono (Q:=λ_ s'=>∃ σ' H',Inv X pins σ' H' s'/\DD.nx σ' H') ?_ (λ_ s' hq=>wP (wP hq)) λ_ _ e=>e);refine sY (bT:=[]) (em:=λD env it=>emD kx vx D env (.compLoop (.DictComp kx vx [⟨tg,iter,ifs,0⟩] sc pos) 0 it (.ref D) env)) hc S hi (λD env it=>rG) (λfp pins s H=>⟨(hb fp pins s H).1,(hb fp pins s H).2.1,λD it=>rY (hb fp pins s H).2.2.1 (hb fp pins s H).2.2.2⟩) hs I h λD c m6 H5 s6 I7 n6 f6 cl sz cc cp q=>?_;obtain⟨d,o,kvs,hd,q⟩:=q;obtain⟨ho,hdk⟩:=jG I7.hok hd;have I7':Inv X pins σ (upd H5 d (.dK kvs)) s6:=dG (h':=s6.heap) (t':=s6.toks) (ob:=.dK kvs) I7 (by rw[hd];exact True.intro) ⟨U,λ_ _=>rfl⟩ ⟨o,ho⟩ (show bV X.prog X.w _ s6.heap d (.dK kvs) from hdk);have f6':(upd H5 d (.dK kvs)) c=none:=by rw[ai (λe=>by rw[e,hd] at f6;cases f6)];exact f6
 refine wpAny_assign_Name (jn I7' hN hi0 (.inl Jv) (v:=.ref D) U (λs8 I8 z=>?_) (.inr Jv));obtain⟨a8,sb8,h8⟩:=z;have a8c:c≠a8:=by
  rcases h8 with z | z
  · rw[z];exact cl.symm
  · exact (cc _ _ z).symm
 exact⟨m6,n6.sameBut sb8 a8c,λh9 sb9=>⟨_,_,I8.turned (t':=s8.toks) (λb o hb e=>(sb9.2 b hb).trans e) f6' cl.symm (.inr sz) cc cp,q⟩⟩
def jV.items {r:Type} {P:Program} {w:World} {d:Addr} {o:Obj} {kvs:List (Key×V)} {g:TG} {tc:TT} {t:TM r} {s:r->St->Hp->Prop} {k0:r} {n:St} {u:Hp} (f:Nat->r->St->Hp->Prop) (z:f 0 k0 n u) (A:∀ i k c H,i<=kvs.length->f i k c H->H d=some (DKo P w d o kvs))
 (B:∀ i x k c H a,kvs[i]?=some x->f i k c H->H a=none->g (.ref a) c (upd H a (.tup [kV x.1,x.2])) λh C=>tc h C λb v=>if b=true then t k h v (f (i+1)) else f (i+1) k h v)
 (D:∀ k c H,f kvs.length k c H->s k c H):jV (Iti P w d o kvs) g tc t s k0 n u:=by
 refine⟨λi m k c H=>m=kvs.length-i/\i<=kvs.length/\f i k c H,⟨kvs.length,by simp,Nat.zero_le _,z⟩,?_⟩;rintro i m k c H ⟨rfl,E,p⟩;have q:=A i k c H E p;by_cases j:i<kvs.length
 · refine .inr ⟨⟨j,q⟩,f (i+1),λL F G I=>⟨kvs.length-(i+1),Nat.sub_succ_lt_self _ _ j,U,j,I⟩,λv G y=>?_⟩;obtain⟨a,x,rfl,J,rfl,K⟩:=y;exact B i x k c H a K p J
 · have e:i=kvs.length:=by omega
   subst e;exact .inl ⟨⟨Nat.le_refl _,q⟩,D k c H p⟩
end L2
namespace K13
open PySem L2 PySem.Spec PyProof.Rows PySem.SeqAt
def Gd {α:Type} (n:Nat) (x:α):(List.replicate n [x]).flatten=List.replicate n x:=by simp_all
def EY:(["number","word"]:List Str).Nodup:=by left
section
variable {P:Program} {w:World} {K:Fg} {mg:SOV} {base:Heap}
def sL {ps:PDs} (t:BD K H v (.tuple (.str h::ps))):∃ a c,v=.ref a/\SqT K H a (.str h::c)/\BDs K H c ps:=by
 obtain⟨a,c,rfl,d,b⟩:=t.tup_of;cases b with
 | cons e b=>rw[e.str_of] at d;exact⟨a,_,U,d,b⟩
abbrev sSw:Stmt:=top 38
abbrev nSw:List Str:=["e","seen","ids"]
def Dv:aM nSw ["e","seen"] (ad sSw):=fsM
inductive AJ (K:Fg) (vs:List V) (H:Hp) (Q:VK):Prop
  | mk (v:V) (m:Addr) (d:PyData) (kvs:List (Key×V)) (kn:Kn) (n:Nat) (h0:vs=[v,.ref m]) (h1:BD K H v d) (h2:cB d=true) (h3:H m=some (.dK kvs)) (h4:eY kvs kn n) (h5:jI kn n) (h6:kvs.length<=400000)
    (q:∀ D H' KD,aA H H'->H' D=some (.dK KD)->eY KD (lQ d kn n) (iZ d n)->KD.length<=kvs.length+4->Q (.ref D) H'):AJ K vs H Q
def D5 (K:Fg):Sp:=λvs H Q _=>AJ K vs H Q
def Ej (D:Def K mg "seen_within" sSw) (T:Blt K mg) (iJ:Fn P w K mg base "bound_by" 1 ["e"] (Bq K)) (lG:Fn P w K mg base "with_entries" 1 ["table","ids","told"] (D4 K)):Fn P w K mg base "seen_within" 2 ["e","seen"] (D5 K):=by
 refine D.fn Dv ?P (λ_ _ _ _ _ _ O hl=>by obtain⟨a,b,rfl⟩:=f8 hl;rfl) ?X
 · obtain⟨v,m,d,k,kn,n,rfl,_⟩:=h;rfl
 · obtain⟨v,m,d,k,kn,n,rfl,td,W,hm,hs,hk,hl,q⟩:=h;have nd:=Dv.nd;ext c
   refine⟨_,(pE (pN (i:=2) nd U ?D (aB iJ ?S U (pA ?C pC)))
 (pE (aE (pP aZ ?I pD (pQ _)) (pH (BA (i0:=1) (own:=["number","word"]) (outs:=[]) (g:=ph K 2 (fD (cP 0) (fD (cP 1) pi))) U (aG.of (ad sSw) nSw) (wn ?E) (λ_ _ _ _=>⟨(cv (n:=2) U (aF (ax (i:=0) EY U ?D (Or.inr U)) (aF (ax (i:=1) EY U ?D (Or.inr U)) bI))),(bM (pP fz ?E pD (pQ _))),?C,?E⟩) nd U U)) am)
 (pH (ak (aB lG ?S U (pA ?E (pA (pv 2) (pA (aT BJ (bb (pA ?I pC)) (bq T.len (pA (pv 2) pC))) pC)))))))),?_⟩
   ext b;have hbi:=tu W;have hex':=W;obtain⟨l,sl,ps,rfl,hm',HZ,hpl,hsl⟩:=eU W;have ehd:bu (.tuple (.str l::ps))=l:=rfl;refine ab λjP f9=>?_;refine⟨_,U,v,_,U,td,hex',λv1 H1 k1 t1=>?_⟩;rw[hbi.2] at t1;refine f9 _ _ (ab λjx fC=>?_);have hm1:=k1 _ _ hm;obtain⟨a,xs,rfl,ha,hx⟩:=sL (td.same k1);obtain⟨b,O,rfl,hb,hus⟩:=t1.tup_of;have ul:=hus.length;rw[lMp,lMp] at ul;have bT:∀ (m':Addr) (R:Hp) (F:List (Key×V)) (n':Nat),aA H1 R->R m'=some (.dK F)->eY F kn n'->F.length<=k.length->n'=iZ (.tuple (.str l::ps)) n->jx [some (.ref a),some (.ref m'),some (.ref b)] R:=by
    intro m' R F n' s' Jy hs1 Jq hn;refine fC _ _ ?_;refine⟨_,U,_,U,_,U,a,_,0,_,U,U,s'.seqT ha,pI (j:=0) U,v3,λp hp=>?_⟩;have k3:=smu (o:=HO.lst [V.str l]) hp;have hp3:(upd R p (.lst [V.str l])) p=some (.lst [V.str l]):=pF;generalize upd R p (.lst [V.str l])=H3 at k3 hp3 ⊢;refine⟨_,U,b,O,U,.inr ((s'.trans k3).seqT hb),p,_,[V.str l],U,U,hp3,by omega,by omega,by show 1*O.length<=_;omega,λr IX=>?_⟩;have k4:=smu (o:=HO.lst (List.replicate O.length [V.str l]).flatten) IX;rw[Int.toNat_natCast];have e4:=Gd O.length (V.str l);rw[e4] at k4 ⊢;have Z:(upd H3 r (.lst (List.replicate O.length (V.str l)))) r=some (.lst (List.replicate O.length (V.str l))):=pF;generalize upd H3 r (.lst (List.replicate O.length (V.str l)))=H4 at k4 Z ⊢;have k14:=(s'.trans k3).trans k4;rw[ul,<- lMp (f:=aY)] at Z;refine⟨m',r,.ref b,(cZ (.tuple (.str l::ps))).map aY,l,F,U,(k3.trans k4) _ _ Jy,(BD.tup hb hus).same k14,Z,by rw[lMp];omega,λD R k5 hD=>?_⟩;have hsp:=hs1.puts l ((cZ (.tuple (.str l::ps))).map aY);rw[hn] at hsp;refine q D R _ ((k1.trans k14).trans k5) hD hsp ?_;have:=iP F l ((cZ (.tuple (.str l::ps))).map aY);rw[lMp] at this;omega
   refine⟨_,U,a,_,0,_,U,U,ha,pI (j:=0) U,U,_,U,?_⟩;by_cases hf:l="fun"
   · refine pK (by simp[hf]) ?_;refine⟨_,U,m,k,U,hm1,λo E hE=>?_⟩;have L:E≠m:=λe=>by rw[e,pF] at hE;cases hE
     have hE1:H1 E=none:=by rw[ai L] at hE;exact hE
     refine jV.items (P:=P) (w:=w) (λi _ σ S=>(∀ c u,c≠m->H1 c=some u->S c=some u)/\S m=some (DKo P w m o k)/\S E=some (.dK ((k.take i).filter i9))/\∃ y z,σ=[y,z]) ⟨λc u I G=>?_,?_,pF,_,_,U⟩ (λi _ σ S _ h=>h.2.1) ?_ ?_
     · rw[ai (aD G hE1),ai I];exact G
     · rw[ai (Ne.symm L)];exact pF
     · rintro i x _ σ S t Ih ⟨C,Y,J,y,z,rfl⟩ ht;obtain⟨j,N,rfl⟩:=hs.ky x (mGE Ih);have kt:=smu (o:=HO.tup [kV (.inl j),V.str N]) ht;ext o;have B:∀ c u,c≠m->H1 c=some u->(upd S t (.tup [kV (.inl j),V.str N])) c=some u:=λc u I G=>kt _ _ (C c u I G);have hm3:=kt _ _ Y;have hE3:=kt _ _ J;generalize upd S t (.tup [kV (.inl j),V.str N])=H3 at B hm3 hE3 ⊢;refine ?T;have M:(k.take (i+1)).filter i9=(k.take i).filter i9++(if i9 (.inl j,.str N)=true then [(.inl j,.str N)] else []):=by
        rw[tAO,Ih,List.filter_append];congr 1;simp only[Option.toList_some,List.filter_cons,List.filter_nil]
       by_cases hw:N="var"
       · have e5:i9 (.inl j,.str N)=false:=by unfold i9;simp[hw]
         rw[e5,if_neg ?G,List.append_nil] at M;exact pJ (by simp[hw]) ⟨B,hm3,by rw[M];exact hE3,_,_,U⟩
       · have e5:i9 (.inl j,.str N)=true:=by unfold i9;simp[hw]
         rw[e5,if_pos U] at M;refine pK (by simp[hw]) ⟨_,U,_,U,_,.inl j,U,hE3,?_,?_⟩
         · have h1:=List.length_filter_le i9 (k.take i);rw[lTk] at h1;omega
         · have enew:bd ((k.take i).filter i9) (.inl j:Key)=none:=by
            cases z:bd ((k.take i).filter i9) (.inl j:Key) with
            | none=>rfl
            | some v =>
             have h3:=cy (.inl j:Key) ((k.take i).filter i9);rw[z] at h3;obtain⟨p,hp,e2⟩:=List.any_eq_true.mp h3;have hp':=(List.mem_filter.mp hp).1;obtain⟨i',hi',e6⟩:=List.getElem_of_mem hp';rw[lTk] at hi';have h7:(k.map (·.1))[i']?=(k.map (·.1))[i]?:=by
              rw[gEM,gEM,Ih];rw[List.getElem_take] at e6;rw[gEE ?A,e6];show some p.1=some (.inl j);rw[of_decide_eq_true e2]
             have hlt:=(gES.mp Ih).1;have:=(List.getElem?_inj (by rw[lMp];omega) hs.nd).mp h7;omega
           rw[kZ _ enew];refine⟨λc u I G=>?_,?_,by rw[pF,M],_,_,U⟩
           · rw[ai (aD G hE1)];exact B c u I G
           · rw[ai (Ne.symm L)];exact hm3
     · rintro _ σ S ⟨C,Y,J,y,z,rfl⟩;rw[List.take_length] at J;refine⟨m,o,k,Y,?_⟩;dsimp only[aL];refine bT E _ _ (n+1) (λc u G=>?_) (by rw[ai L];exact J) (hs.fun_ hk) (List.length_filter_le _ _) (by unfold iZ;rw[ehd,if_pos hf]);by_cases I:c=m
       · rw[I] at G ⊢;rw[hm1] at G;cases G;exact pF
       · rw[ai I];exact C c u I G
   · refine pJ (by simpa using hf) ?_;exact bT m H1 k n (aA.refl _) hm1 hs ?M (by unfold iZ;rw[ehd,if_neg hf])
end
def aX (fs rs:PDs):Cfg:=⟨fs.map λf=>(bu f,aY (p0 f)),rs.map aY⟩
def jN (e:lkT tbl h=some sl) (a:lkT tbl h=some sl'):sl=sl':=Option.some.inj (e.symm.trans a)
def GC (m:lkT opT s=some p):0<=p.2:=by
 have:∀ q∈opT,0<=q.2.2:=by left
 exact this _ (fJ m)
def eB (f:α->β) (l:List α) (i:Int):plc (l.map f) i=(plc l i).map f:=by
 unfold plc;split
 · rw[gEM]
 · rfl
def dW {x:α} (h:plc l i=some x):∃ j:Nat,i=((j:Nat):Int)/\l[j]?=some x:=by
 unfold plc at h;split at h
 · exact⟨i.toNat,by omega,h⟩
 · cases h
def BDs.plc {K:Fg} (h:BDs K H xs ds) (e:K13.plc ds i=some d):∃ x,atI xs i=some x/\BD K H x d:=by
 obtain⟨j,rfl,a⟩:=dW e;obtain⟨x,b,t⟩:=h.at a;exact⟨x,pI b,t⟩
def vJ (h:eM kn n x=false):iM kn n x=false:=by
 unfold eM at h;unfold iM;cases e:kn x with
 | none=>rfl
 | some p =>
  rw[e] at h;dsimp only at h ⊢;rw[Bool.or_eq_false_iff] at h;rw[h.2,Bool.and_false]
def rE (h:wIn a b d=true):d=.int (aY d):=by cases d <;> first | rfl | cases h
def BO (h:opD d=true):∃ s p,d=.str s/\lkT opT s=some p:=by
 cases d <;> first | cases h | skip
 rename_i s
 have a:=h;obtain⟨p,b⟩:=Option.isSome_iff_exists.mp a;exact⟨s,p,U,b⟩
section
variable {P:Program} {w:World} {K:Fg} {mg:SOV} {base:Heap}
abbrev sRa:Stmt:=top 37
abbrev nRa:List Str:=["e","seen","functions","records","word","least","most"]
def DC:aM nRa ["e","seen","functions","records"] (ad sRa):=fsM
inductive AQ (K:Fg) (vs:List V) (H:Hp) (Q:VK):Prop
  | mk (v vf vr:V) (m:Addr) (d:PyData) (kvs:List (Key×V)) (kn:Kn) (n:Nat) (fs rs:PDs) (h0:vs=[v,.ref m,vf,vr]) (h1:BD K H v d) (h2:cB d=true) (h3:H m=some (.dK kvs)) (h4:eY kvs kn n) (h5:BD K H vf (.tuple fs)) (h6:∀ f∈fs,fO f=true) (h7:BD K H vr (.tuple rs)) (h8:∀ r∈rs,wIn 1 4 r=true)
    (q:Q (.bl (gy (aX fs rs) kn n d)) H):AQ K vs H Q
def Da (K:Fg):Sp:=λvs H Q _=>AQ K vs H Q
def Es (D:Def K mg "is_right_alone" sRa) (T:Blt K mg) (C:Glb P w K mg) (oA:Fn P w K mg base "fits_count" 1 ["many","least","most"] Dj) (gW:Fn P w K mg base "has_place" 1 ["row","number"] (Dh K)) (kw:Fn P w K mg base "can_be_called" 1 ["function","many"] (Do K)):Fn P w K mg base "is_right_alone" 2 ["e","seen","functions","records"] (Da K):=by
 refine D.fn DC ?P (λ_ _ _ _ _ _ us hl=>by obtain⟨a,b,c,d,rfl⟩:=qQ hl;rfl) ?X
 · obtain⟨v,vf,vr,m,d,R,kn,n,fs,O,rfl,_⟩:=h;rfl
 · obtain⟨v,vf,vr,m,d,R,kn,n,fs,O,rfl,td,hex,hm,hs,hvf,JU,hvr,hrs,q⟩:=h;have nd:=DC.nd;have hu:=dN hr;obtain⟨ao,kvo,go,dO,o1,o2⟩:=C.ops;ext c
   refine⟨_,(pE (pN (i:=4) nd U ?D ?I)
 (pE (aE (pP aZ (pv 4) pD (pQ _)) (pH (ak (ww (wx hu ?I ?E)))) am)
 (pE (aE (pP aZ (pv 4) pD (pQ _)) (pH (ak (bL aZ (wv hu ?E ?I ⟨U,U,U,U⟩) pD (pQ _)))) am)
 (pE (aE (pP aZ (pv 4) pD (pQ _)) (pH (ak (bL ig (bq T.len (pA ?I pC)) pG (pQ _)))) am)
 (pE (aE (pP aZ (pv 4) pD (pQ _)) (pE (gL (nC (cD (v:=.ref ao) U go U) ?I ?H) (cv U (aF (ax (i:=5) nd U ?D) (aF (ax (i:=6) nd U ?D) bI))))
 (pH (ak (aB oA ?S U (pA (bq T.len (pA ?I pC)) (pA (pv 5) (pA (pv 6) pC))))))) am)
 (pE (aE (pP aZ (pv 4) pD (pQ _)) (pH (ak (cJ (aB gW ?S U (pA (pv 3) (pA ?I pC))) (de (bL aZ (bq T.len (pA ?I pC)) (aj ae (pv 3) ?I ?H) (pQ _)))))) am)
 (pE (aE (pP aZ (pv 4) pD (pQ _)) (pH (ak (cJ (aB gW ?S U (pA (pv 3) (pA ?I pC))) (de (gM fV gN pG ?I (aj ae (pv 3) ?I ?H)))))) am)
 (pE (aE (pP aZ (pv 4) pD (pQ _)) (pH (ak (cJ (aB gW ?S U (pA (pv 2) (pA ?I pC))) (de (aB kw ?S U (pA (aj ae (pv 2) ?I ?H) (pA (bq T.len (pA ?I pC)) pC))))))) am)
 ?O)))))))),?_⟩
   ext b;obtain⟨L,sl,ps,rfl,hm',Y,F,o⟩:=eU hex;obtain⟨a,xs,rfl,u,t⟩:=sL td;obtain⟨af,xf,rfl,Ir,IB⟩:=hvf.tup_of;obtain⟨ar,xr,rfl,IS,IP⟩:=hvr.tup_of;have ehd:bu (.tuple (.str L::ps))=L:=rfl;unfold gy at q;rw[ehd] at q;refine ab λsw jB=>?_;refine⟨_,U,a,_,0,_,U,U,u,pI (j:=0) U,?_⟩;have J:∀ {x y:V} {r:List V},atI (x::y::r) 1=some y:=λ{x y r}=>pI (j:=1) rfl;have M:∀ {x y z:V} {r:List V},atI (x::y::z::r) 2=some z:=λ{x y z r}=>pI (j:=2) rfl;refine jB _ _ (ab λjP f9=>?_);refine ?T;by_cases c1:L="name"
   · rw[if_pos c1] at q;refine pK (by simp[c1]) ?_;subst c1;obtain rfl:=jN Y (show lkT tbl ("name":Str)=some (["meant"]:List Str) by left);obtain⟨p,rfl⟩:=dM F;obtain⟨i,rfl⟩:=cV (show isW p=true from o 0 "meant" p rfl rfl);cases t with
     | cons G t =>
     rw[G.int_of] at u;refine⟨_,U,a,_,1,_,U,U,u,J,_,U,m,_,U,dC.k (k:=.inl i) hm,?_⟩;have e:(bd R (.inl i:Key)).isSome=eM kn n i:=by
      cases z:eM kn n i with
      | false=>rw[(hs.val i).1 z];rfl
      | true=>obtain⟨w',h1,_⟩:=(hs.val i).2 z;rw[h1];rfl
     rw[e];exact q
   rw[if_neg c1] at q;refine pJ (by simpa using c1) (f9 _ _ (ab λjx fC=>?_));refine ?T;by_cases c2:L="set"
   · rw[if_pos c2] at q;refine pK (by simp[c2]) ?_;subst c2;obtain rfl:=jN Y (show lkT tbl ("set":Str)=some (["meant","one"]:List Str) by left);obtain⟨p,I,rfl⟩:=f8 F;obtain⟨i,rfl⟩:=cV (show isW p=true from o 0 "meant" p rfl rfl);cases t with
     | cons G t =>
     rw[G.int_of] at u;refine⟨_,U,m,U,.inl ⟨R,.inl hm⟩,_,U,a,_,1,_,U,U,u,J,_,dC.k (k:=.inl i) hm,?_⟩;have g:Q (.bl (iM kn n i)) H:=q;cases z:eM kn n i with
     | false =>
      rw[(hs.val i).1 z];rw[vJ z] at g;exact⟨U,g⟩
     | true =>
      obtain⟨w',h1,h2⟩:=(hs.val i).2 z;rw[h1];rw[<- h2] at g;have e3:(decide (V.str w'=V.str "var"))=decide (w'="var"):=by simp
      refine⟨U,?_⟩;show Q (.bl (decide (V.str w'=V.str "var"))) H;rw[e3];exact g
   rw[if_neg c2] at q;refine pJ (by simpa using c2) (fC _ _ (ab λmy gH=>?_));refine ?T;by_cases c3:L="do"
   · rw[if_pos c3] at q;refine pK (by simp[c3]) ?_;subst c3;obtain rfl:=jN Y (show lkT tbl ("do":Str)=some (["many"]:List Str) by left);obtain⟨p,rfl⟩:=dM F;obtain⟨l,rfl⟩:=fA (show isT p=true from o 0 "many" p rfl rfl);cases t with
     | cons G t =>
     obtain⟨S,W,rfl,N,B⟩:=G.tup_of;refine⟨_,U,a,_,1,_,U,U,u,J,S,W,U,.inr N,_,_,U,U,?_⟩;rw[B.length];have e3:decide ((0:Int)<((l.length:Nat):Int))=decide (0<l.length):=by simp
     rw[e3];exact q
   rw[if_neg c3] at q;refine pJ (by simpa using c3) (gH _ _ (ab λoX iD=>?_));refine ?T;by_cases c4:L="op"
   · rw[if_pos c4] at q;refine pK (by simp[c4]) ?_;subst c4;obtain rfl:=jN Y (show lkT tbl ("op":Str)=some (["op","many"]:List Str) by left);obtain⟨p,I,rfl⟩:=f8 F;obtain⟨s',lm,rfl,hop⟩:=BO (show opD p=true from o 0 "op" p rfl rfl);obtain⟨l,rfl⟩:=fA (show isT I=true from o 1 "many" I rfl rfl);cases t with
     | cons G t =>
     cases t with
     | cons t2 t =>
     rw[G.str_of] at u;obtain⟨S,W,rfl,N,B⟩:=t2.tup_of;obtain⟨r,JF,IU⟩:=o1 s' lm.1 lm.2 (fJ hop);refine ab λGP Ax=>?_;refine⟨_,U,a,_,1,_,U,U,u,J,ao,kvo,.inr s',.ref r,U,dO,U,JF,r,_,U,IU H,U,_,_,U,_,_,U,U,?_⟩;refine Ax _ _ ?_;refine⟨_,U,a,_,2,_,U,U,u,M,S,W,U,.inr N,_,U,_,U,_,lm.1,lm.2,U,GC hop,?_⟩;rw[B.length];have g:Q (.bl (opN s' l.length)) H:=q;unfold opN at g;rw[hop] at g;exact g
   rw[if_neg c4] at q;refine pJ (by simpa using c4) (iD _ _ (ab λsv jj=>?_));refine ?T;by_cases c5:L="new"
   · rw[if_pos c5] at q;refine pK (by simp[c5]) ?_;subst c5;obtain rfl:=jN Y (show lkT tbl ("new":Str)=some (["place","many"]:List Str) by left);obtain⟨p,I,rfl⟩:=f8 F;obtain⟨i,rfl⟩:=cV (show isW p=true from o 0 "place" p rfl rfl);obtain⟨l,rfl⟩:=fA (show isT I=true from o 1 "many" I rfl rfl);cases t with
     | cons G t =>
     cases t with
     | cons t2 t =>
     rw[G.int_of] at u;obtain⟨S,W,rfl,N,B⟩:=t2.tup_of;have g:Q (.bl (match plc (O.map aY) i with | some c=>decide (((l.length:Nat):Int)=c) | none=>false)) H:=q;rw[eB] at g;refine⟨_,U,_,U,a,_,1,_,U,U,u,J,.ref ar,O,i,U,.tup IS IP,_,U,?_⟩;cases e:plc O i with
     | none=>rw[e] at g;exact aP g
     | some r =>
      rw[e] at g;obtain⟨x,Ka,Z⟩:=IP.plc e;obtain⟨j,_,hj⟩:=dW e;rw[rE (hrs r (mGE hj))] at Z;obtain rfl:=Z.int_of;refine aJ ⟨_,U,a,_,2,_,U,U,u,M,S,W,U,.inr N,_,U,_,U,a,_,1,_,U,U,u,J,ar,xr,i,_,U,U,IS,Ka,U,?_⟩;rw[B.length];have e3:(decide (V.int ((l.length:Nat):Int)=V.int (aY r)))=decide (((l.length:Nat):Int)=aY r):=by simp
      rw[e3];exact g
   rw[if_neg c5] at q;refine pJ (by simpa using c5) (jj _ _ (ab λyn mD=>?_));refine ?T;by_cases c6:L="get"
   · rw[if_pos c6] at q;refine pK (by simp[c6]) ?_;subst c6;obtain rfl:=jN Y (show lkT tbl ("get":Str)=some (["place","place","one"]:List Str) by left);obtain⟨p,I,p3,rfl⟩:=gG F;obtain⟨i,rfl⟩:=cV (show isW p=true from o 0 "place" p rfl rfl);obtain⟨i2,rfl⟩:=cV (show isW I=true from o 1 "place" I rfl rfl);cases t with
     | cons G t =>
     cases t with
     | cons t2 t =>
     rw[G.int_of,t2.int_of] at u;have g:Q (.bl (match plc (O.map aY) i with | some c=>decide (0<=i2)&&decide (i2<c) | none=>false)) H:=q;rw[eB] at g;refine⟨_,U,_,U,a,_,1,_,U,U,u,J,.ref ar,O,i,U,.tup IS IP,_,U,?_⟩;cases e:plc O i with
     | none=>rw[e] at g;exact aP g
     | some r =>
      rw[e] at g;obtain⟨x,Ka,Z⟩:=IP.plc e;obtain⟨j,_,hj⟩:=dW e;rw[rE (hrs r (mGE hj))] at Z;obtain rfl:=Z.int_of;refine aJ ⟨_,U,a,_,2,_,U,U,u,M,_,_,U,U,_,U,?_⟩;replace g:Q (.bl (decide (0<=i2)&&decide (i2<aY r))) H:=g;by_cases h0:0<=i2
      · rw[decide_eq_true h0] at g ⊢;exact aJ ⟨_,U,_,U,a,_,1,_,U,U,u,J,ar,xr,i,_,U,U,IS,Ka,_,_,U,U,g⟩
      · rw[decide_eq_false h0] at g ⊢;exact aP g
   rw[if_neg c6] at q;refine pJ (by simpa using c6) (mD _ _ (ab λBX qX=>?_));refine ?T;by_cases c7:L="call"
   · rw[if_pos c7] at q;refine pK (by simp[c7]) ?_;subst c7;obtain rfl:=jN Y (show lkT tbl ("call":Str)=some (["place","many"]:List Str) by left);obtain⟨p,I,rfl⟩:=f8 F;obtain⟨i,rfl⟩:=cV (show isW p=true from o 0 "place" p rfl rfl);obtain⟨l,rfl⟩:=fA (show isT I=true from o 1 "many" I rfl rfl);cases t with
     | cons G t =>
     cases t with
     | cons t2 t =>
     rw[G.int_of] at u;obtain⟨S,W,rfl,N,B⟩:=t2.tup_of;have g:Q (.bl (match plc (fs.map λf=>(bu f,aY (p0 f))) i with | some (h,c)=>!(decide (h="open"))&&decide (c=((l.length:Nat):Int)) | none=>false)) H:=q;rw[eB] at g;refine⟨_,U,_,U,a,_,1,_,U,U,u,J,.ref af,fs,i,U,.tup Ir IB,_,U,?_⟩;cases e:plc fs i with
     | none=>rw[e] at g;exact aP g
     | some r =>
      rw[e] at g;obtain⟨x,Ka,Z⟩:=IB.plc e;obtain⟨j,_,hj⟩:=dW e;obtain⟨h',c',b',rfl,_⟩:=eI (JU r (mGE hj));refine aJ ⟨_,U,_,U,a,_,1,_,U,U,u,J,af,xf,i,_,U,U,Ir,Ka,_,U,a,_,2,_,U,U,u,M,S,W,U,.inr N,x,h',c',_,b',U,Z,?_⟩;rw[B.length];exact g
   rw[if_neg c7] at q;exact pJ (by simpa using c7) (qX _ _ q)
end
end K13
namespace PySem
open Sem (wp)
open AutoSeq1 (wpAny_loadPart')
section
variable {prog:Program} {w:World} {A:Around} {E:VSP} {s:Shared}
def qc {n:Nat} (H:A.handled=none) (G:IsRange s.heap r a b c t u v) (K:Builtin.Range.small a b c=true) (J:Builtin.Range.rangeSize a b c=n) (I:n<=2 ^ 24)
 (q:∀ g k d,(∀ b o,s.heap.get? b=some o->g.get? b=some o)->ItemsOf (λi v=>∃ t,v=.int (a+i*c) t) d n->Q d.toList {s with heap:=g,toks:=k}):wpAny ?L A (collect (.ref r)) Q E s:=by
 unfold collect;have D:(s.heap.push {cls:=.type "list",data:=.seq ([]:List Value).toArray}).get? s.heap.objs.size=some {cls:=.type "list",data:=.seq #[] 0}:=Heap.get?_push_size _ rfl;have Y:∀ (g:Heap) k d l,(∀ b o,b≠s.heap.objs.size->(s.heap.push {cls:=.type "list",data:=.seq [].toArray}).get? b=some o->g.get? b=some o)->g.get? s.heap.objs.size=some {cls:=.type "list",dict:=none,data:=.seq d l,slots:=#[]}->ItemsOf (λi v=>∃ t,v=.int (a+i*c) t) d n ->
  wpAny ?L A (load s.heap.objs.size>>=λo=>match o.data with | Data.seq xs _=>pure xs.toList | _=>unsupported "internal:collect") Q E {s with heap:=g,toks:=k}:=by
  intro g k d l B p y;refine wB (wpAny_load p (wP (q g k d (λb o z=>B b o (Nat.ne_of_lt (Heap.lt_size z)) (hpS _ z)) y)))
 refine wB (wpAny_runValue (codeAny_builtin F.entry_proto_collect ?_));rw[Around.under_plainId F.plain_proto_collect _];refine wB (wpAny_newObj_type (wP ⟨plainId_quiet F.plain_list_iadd _,codeAny_builtin F.entry_list_iadd ?_⟩));rw[Around.under_plainId F.plain_list_iadd _];refine wpAny_mono (wpAny_extend_range (R:=λx C=>x=.ok (.ret ?V)/\∃ g k d l,C={s with heap:=g,toks:=k}/\(∀ b o,b≠s.heap.objs.size->(s.heap.push {cls:=.type "list",data:=.seq ([]:List Value).toArray}).get? b=some o->g.get? b=some o)/\g.get? s.heap.objs.size=some {cls:=.type "list",dict:=none,data:=.seq d l,slots:=#[]}/\ItemsOf (λi v=>∃ t,v=.int (a+i*c) t) d n) H (hpS _ G) K J I _ _ 0 D λg k d l B p y=>⟨U,g,k,d,l,U,B,p,y⟩) (λW C h=>?_) (λe C h=>?_)
 · cases W with
   | done f =>
    obtain⟨e,g,k,d,l,rfl,B,p,y⟩:=h;cases e;exact Y g k d l B p y
   | again L=>exact⟨h.1,codeAny_mono h.2 λx M z=>by obtain⟨rfl,g,k,d,l,rfl,B,p,y⟩:=z;exact Y g k d l B p y⟩
 · exact absurd h.1 ?B
end
def oH (r:Addr) (a b c:Int) (t u v:Tok) (n:Nat) (y:Builtin.Range.small a b c=true) (z:Builtin.Range.rangeSize a b c=n) (B:n<=2 ^ 24) :
 Meets (Builtin.«tuple.__new__» ⟨[.type "tuple",.ref r],[]⟩) (λA R s=>A.handled=none/\IsRange s.heap r a b c t u v/\∀ (h':Heap) (j:Nat) (d:Array Value),(∀ b o,s.heap.get? b=some o->h'.get? b=some o)->ItemsOf (λi v=>∃ t,v=.int (a+i*c) t) d n->R (.ok (.ret (.ref h'.objs.size))) {s with heap:=h'.push {cls:=.type "tuple",data:=.seq d},toks:=j}) :=
 .of_wp λp w A R s h=>by
  obtain⟨D,q,h⟩:=h;have G:=sub_tuple_self;have H:=init_tuple_lookup;have I:=madeHere_tuple;have E:s.TypeIs (.ref r) "range":=⟨_,q,U⟩;have f:A.in1.handled=none:=D
  wp_walk using wpAny_typeOf E,qc f q y z B
  intro h' j d F x;show wpAny _ _ (Builtin.Tuple.tupleExact d.toList.toArray>>=λv=>ret v) _ _ _;unfold Builtin.Tuple.tupleExact;have e:d.toList.toArray=d:=by simp
  rw[e];exact wB (wpAny_newObj_type (wP ⟨_,U,h h' j d F x⟩) (by show d.size<=sizeLine;rw[x.1,sizeLine_eq];omega))
def o8 {prog:Program} {w:World} {A:Around} {E:VSP} {s:Shared} {Q:VSP} {r:Addr} {a b c:Int} {t u v:Tok} {n:Nat} (k:A.handled=none) (l:IsRange s.heap r a b c t u v) (m:Builtin.Range.small a b c=true) (p:Builtin.Range.rangeSize a b c=n) (x:n<=2 ^ 24)
 (q:∀ (h':Heap) (e:Nat) (d:Array Value),(∀ b o,s.heap.get? b=some o->h'.get? b=some o)->ItemsOf (λi v=>∃ t,v=.int (a+i*c) t) d n->Q (.ref h'.objs.size) {s with heap:=h'.push {cls:=.type "tuple",data:=.seq d},toks:=e}):wpAny ?L A (call (.type "tuple") [.ref r]) Q E s :=
 callType_new F.called_tuple ?G (F.typeCall_tuple_1 _) (F.newCall_tuple_1 _) (λf=>F.args_object_init_2 f _) F.entry_tuple_new (oH r a b c t u v n m p x) ⟨k,l,λh' e d z B=>⟨⟨_,Heap.get?_push_size _ U,U⟩,q h' e d z B⟩⟩
end PySem
namespace L2
open PySem PySem.Spec PyProof.Rows
def DY (xs:List V) (H:Hp) (Q:VK):Prop:=∃ (i:Int) (k:Nat),xs=[.int i,.int (i+((k:Nat):Int))]/\(-(2 ^ 60)<=i/\i<2 ^ 60)/\k<=1000/\∀ t,H t=none->Q (.ref t) (upd H t (.tup ((List.range k).map λj=>V.int (i+((j:Nat):Int)))))
def ve:∀ {k:Nat} {a:Array Value},ItemsOf (λj v=>∃ t,v=.int (i+j*1) t) a k->b7 ((List.range k).map λj=>V.int (i+((j:Nat):Int))) a.toList:=by
 intro k a h;have g:∀ (l:List Value) o,(∀ j v,l[j]?=some v->∃ t,v=Value.int (i+((o+j:Nat))*1) t)->b7 ((List.range' o l.length).map λj=>V.int (i+((j:Nat)))) l:=by
  intro l
  induction l with
  | nil=>intro o _;exact .nil
  | cons v r f =>
   intro o e;obtain⟨t,b⟩:=e 0 v rfl;refine .cons ⟨t,by rw[b];simp⟩ (f (o+1) λj v d=>?_);obtain⟨t,b⟩:=e (j+1) v d;exact⟨t,by rw[b];congr 3;omega⟩
 have z:=g a.toList 0 λj v d=>by
  obtain⟨t,b⟩:=h.2 j v (by simpa using d);exact⟨t,by rw[b,Nat.zero_add]⟩
 rw[Array.length_toList,h.1,<- List.range_eq_range'] at z;exact z
def CI {p1 l g f:Pos} (y:X.mg "tuple"=none) (N:X.mg "range"=none) (F:PA X [a,b] ta) (x:X.calm=true:=by rfl) (B:Gl X "tuple":=by rfl) (m:Gl X "range":=by rfl)
 (u:starEach [.Call (.Name "range" l) [a,b] [] f] X.env=(false,eval (.Call (.Name "range" l) [a,b] [] f) X.env)::starEach [] X.env:=by rfl) (O:starEach [a,b] X.env=[(false,eval a X.env),(false,eval b X.env)]:=by rfl) (d:starEach [b] X.env=[(false,eval b X.env)]:=by rfl)
 (L:(backTo g (starEach [] X.env)).any (·.1)=false:=by rfl) (G:backTo g (starEach [] X.env)=[]:=by rfl):
 PE X (.Call (.Name "tuple" p1) [.Call (.Name "range" l) [a,b] [] f] [] g) (tCB DY ta):=by
 intro c s σ H Q I h;have A:=I.ok.hd x;refine wpAny_Call_Name_kw (e8 I B y jU (PyProof.Rows.callWith_type1 ?_ u L));rw[u];show wpAny _ _ (spliced ((false,eval (.Call (.Name "range" l) [a,b] [] f) X.env)::backTo g (starEach [] X.env))) _ _ s;rw[G];refine Calls.spliced_cons (wpAny_Call_Name_kw (e8 I m N boot_range (PyProof.Rows.callWith_type1 (thn (F f c s σ H _ I h) λus u z=>?_) (by rw[O,d]) (by rw[d];rfl))));obtain⟨S,Y,J,D,i,k,rfl,⟨R,P⟩,W,q⟩:=z;cases D with
 | cons r v =>
  cases v with
  | cons E v =>
   cases v;obtain⟨t,rfl⟩:=r;obtain⟨K,rfl⟩:=E;refine call_range_2 (Calls.spliced_nil (o8 A (IsRange.new ..) (small_one ?A ?A ?A ?A) (n:=k) (by rw[rangeSize_one];split <;> omega) ?A λh' tk p M C=>?_));have w:=J.kept (t':=tk) λb o z=>M _ _ (hpS _ z);refine⟨.ref h'.objs.size,_,w.laid (o:=.tup ((List.range k).map λj=>V.int (i+((j:Nat):Int)))) (λb o e=>hpS _ e) ?M ⟨?_,p.toList,ve C,?_⟩,U,q _ (w.hok.fresh ?M)⟩
   · rw[lMp,List.length_range,sizeLine_eq];omega
   · rw[Array.toArray_toList];exact IsTup.new _ _
variable {X:Cx} {o e:Expr} {j:TE} {t:TA} {k i:Pos}
def y9 (c:PE X o j) (h:PA X [e] t) (d:attributeBase o "extend" X.env (eval o X.env)=eval o X.env:=by rfl) (f:(k.endLine==i.line)=true:=by rfl)
 (a:?Ae=true:=by rfl)
 (g:starEach [e] X.env=?U::starEach [] X.env:=by rfl) (b:(backTo i (starEach [] X.env)).any (·.1)=false:=by rfl) :
 PE X (.Call (.Attribute o "extend" k) [e] [] i) (tBM X.K "list" rV j t):=sh PySem.F.plainAttrs_list PySem.F.slot_list_extend PySem.F.type_list_extend uj c h d a f g b
end L2
namespace K13
open PySem L2 PySem.Spec PyProof.Rows PySem.SeqAt
structure Ge where
  e:En
  a:Addr
  kvs:List (Key×V)
def lP (f:Nat) (kn:Kn) (n:Nat) (kn':Kn) (n':Nat) (a a':Addr) (kvs kvs':List (Key×V)):PDs->List Ge
  | []=>[]
  | [x]=>[⟨⟨f,kn',n',x⟩,a',kvs'⟩]
  | x::y::r=>⟨⟨f,kn,n,x⟩,a,kvs⟩::lP f kn n kn' n' a a' kvs kvs' (y::r)
section
variable {f:Nat} {kn:Kn} {n:Nat} {kn':Kn} {n':Nat} {a a':Addr} {kvs kvs':List (Key×V)}
def wQ:∀ ks:PDs,(lP f kn n kn' n' a a' kvs kvs' ks).map (·.e)=ur f kn n kn' n' ks
 | []=>rfl
 | [x]=>rfl
 | x::y::r=>by
  show _::(lP f kn n kn' n' a a' kvs kvs' (y::r)).map (·.e)=_::ur f kn n kn' n' (y::r);rw[wQ (y::r)]
def qT:∀ ks:PDs,(lP f kn n kn' n' a a' kvs kvs' ks).map (λg=>(g.e.d,g.a))=scp a a' ks
 | []=>rfl
 | [x]=>rfl
 | x::y::r=>by
  show (x,a)::(lP f kn n kn' n' a a' kvs kvs' (y::r)).map (λg=>(g.e.d,g.a))=scp a a' (x::y::r);rw[qT (y::r)];unfold scp;rw[List.mapIdx_cons (a:=x)];show _=(x,a)::_;congr 1;apply List.ext_getElem?;intro i;rw[List.getElem?_mapIdx,List.getElem?_mapIdx];have:(i+1=(y::r).length)↔(i+1+1=(x::y::r).length):=by simp
  by_cases h:i+1=(y::r).length
  · rw[if_pos h];simp only[if_pos (this.mp h)]
  · rw[if_neg h];simp only[if_neg λz=>h (this.mpr z)]
def oZ:∀ {ks:PDs} {g:Ge},g∈lP f kn n kn' n' a a' kvs kvs' ks->g.e.d∈ks/\g.e.f=f/\((g.e.kn=kn/\g.e.n=n/\g.a=a/\g.kvs=kvs)\/(g.e.kn=kn'/\g.e.n=n'/\g.a=a'/\g.kvs=kvs'))
 | [],g,h=>by cases h
 | [x],g,h=>by
  rw[mSg.mp h];exact⟨mSg.mpr U,U,.inr ⟨U,U,U,U⟩⟩
 | x::y::r,g,h=>by
  rcases List.mem_cons.mp h with rfl | h
  · exact⟨mCS ..,U,.inl ⟨U,U,U,U⟩⟩
  · obtain⟨h1,h2⟩:=oZ (ks:=y::r) h;exact⟨mCM _ h1,h2⟩
def qU (ks:PDs):(lP f kn n kn' n' a a' kvs kvs' ks).map (λg=>g.e.d)=ks:=by
 have:=congrArg (List.map (·.1)) (qT (f:=f) (kn:=kn) (n:=n) (kn':=kn') (n':=n') (a:=a) (a':=a') (kvs:=kvs) (kvs':=kvs') ks);rw[List.map_map] at this;refine (show _=_ from this).trans ?_;unfold scp;apply List.ext_getElem?;intro i;rw[gEM,List.getElem?_mapIdx];cases ks[i]? <;> rfl
end
def wsG (l:List Ge):Nat:=wts (l.map λg=>g.e.d)
def iL (a b:List Ge):wsG (a++b)=wsG a+wsG b:=by unfold wsG;rw[List.map_append,cx]
def yv (l:PDs):wts l.reverse=wts l:=by
 induction l with
 | nil=>rfl
 | cons x r a=>rw[List.reverse_cons,cx,a,wts,wts,wts];omega
def mX (l:List Ge):wsG l.reverse=wsG l:=by unfold wsG;rw[List.map_reverse,yv]
def Hb (xs ys:List Int):PyData.eqv (.tuple (xs.map .int)) (.tuple (ys.map .int))=decide (xs=ys):=Ci xs ys
def shT (xs:List Int):shaped (.tuple (xs.map .int))=true:=by
 show (PyData.canLayAll0 (xs.map .int)&&decide (PyData.depthAll (xs.map .int)+1<=64))=true;rw[Fm,dpI];rfl
def Fj {K:Fg} {xs:List Int} (h:SqT K H a (xs.map V.int)):gX K H (.ref a) (.tuple (xs.map .int)):=by
 refine .tup h ?_;clear h
 induction xs with
 | nil=>exact .nil
 | cons x r b=>exact .cons (.int x) b
def xU {K:Fg} {c:List Int} (h:BDs K H xs (c.map .int)):xs=c.map V.int:=by
 induction c generalizing xs with
 | nil=>cases h;rfl
 | cons i r d=>cases h with | cons a b=>rw[a.int_of,d b];rfl
def Prs.rev {K:Fg} (h:Prs K H zs ps):Prs K H zs.reverse ps.reverse:=by
 induction h with
 | nil=>exact .nil
 | cons a b c d=>rw[List.reverse_cons,List.reverse_cons];exact d.snoc a b
def kn0 (c:Int):Kn:=cS (λ_=>none) false 0 (rgI 0 c.toNat)
section
variable {P:Program} {w:World} {K:Fg} {mg:SOV} {base:Heap}
abbrev sRb:Stmt:=top 39
abbrev nRb:List Str:=["function","functions","records","head","count","body","fresh","waiting","node","seen","ids"]
def DB:aM nRb ["function","functions","records"] (ad sRb):=fsM
def ndN:(["number"]:List Str).Nodup:=by left
inductive AO (K:Fg) (vs:List V) (H:Hp) (Q:VK):Prop
  | mk (v vf vr:V) (h:Str) (c:Int) (b:PyData) (fs rs:PDs) (h0:vs=[v,vf,vr]) (h1:BD K H v (.tuple [.str h,.int c,b])) (h2:0<=c/\c<=4) (h3:BD K H vf (.tuple fs)) (h4:∀ f∈fs,fO f=true) (h5:BD K H vr (.tuple rs)) (h6:∀ r∈rs,wIn 1 4 r=true) (h7:wt b<=90000) (h8:dp b<=40)
    (q:∀ H',aA H H'->Q (.bl (fit (aX fs rs) 40 (kn0 c) 0 (c,[]) b).isSome) H'):AO K vs H Q
def D9 (K:Fg):Sp:=λvs H Q _=>AO K vs H Q
structure Wt (K:Fg) (Hi:Hp) (g:Ge):Prop where
  d:dp g.e.d<=g.e.f
  k:jI g.e.kn g.e.n
  a:Hi g.a=some (.dK g.kvs)
  s:eY g.kvs g.e.kn g.e.n
  l:g.kvs.length+4*g.e.f<=200
def xF (d:PyData):1<=dp d:=by
 cases d with
 | tuple l=>rw[dp];exact Nat.succ_le_succ (Nat.zero_le _)
 | _=>simp[dp]
def Ep (D:Def K mg "is_right_body" sRb) (T:Blt K mg) (kr:Fn P w K mg base "is_expression" 4 ["thing"] (spA cB K)) (jK:Fn P w K mg base "is_right_alone" 2 ["e","seen","functions","records"] (Da K)) (iJ:Fn P w K mg base "bound_by" 1 ["e"] (Bq K)) (jf:Fn P w K mg base "scoped_children" 2 ["e","outer","inner"] (D6 K)) (lV:Fn P w K mg base "seen_within" 2 ["e","seen"] (D5 K)):Fn P w K mg base "is_right_body" 5 ["function","functions","records"] (D9 K):=by
 refine D.fn DB ?P (λ_ _ _ _ _ _ us hl=>by obtain⟨a,b,c,rfl⟩:=gG hl;rfl) (λf kb A outer s' H vs Q E hr h=>?_)
 · obtain⟨v,vf,vr,hh,c,b,fs,O,rfl,_⟩:=h;rfl
 · obtain⟨v,vf,vr,hh,c,b,fs,O,rfl,td,⟨c0,c4⟩,hvf,JU,hvr,hrs,J7,IM,q⟩:=h;have nd:=DB.nd;have hu:=dN hr;have IL:(A.deeper (PyProof.Rows.envOfC "is_right_body" (ad sRb) s'.heap.objs.size f kb)).units+64<cLine:=by have:=hr.un;omega
   ext c
   refine⟨_,(pE (gL ?C (cv U (aF (ax (i:=3) nd U ?D) (aF (ax (i:=4) nd U ?D) (aF (ax (i:=5) nd U ?D) bI)))))
 (pE (pN (i:=6) nd U ?D (pv 4))
 (pE (pN (i:=7) nd U ?D (bb (pA (aN (pA (pv 5) (pA (BG (own:=["number"]) (outs:=[]) U (aG.of (ad sRb) nRb) (bE U T.range (pA (pv 4) pC)) (λ_ _ _ _=>⟨(ax (i:=0) ndN U ?D),bC,?C,pD⟩)) pC))) pC)))
 (pE (l4 PassesOwn.never (gK (pv 7) (by intro _;rfl))
 (pE (gL (rp (pv 7)) (cv U (aF (ax (i:=8) nd U ?D) (aF (ax (i:=9) nd U ?D) bI))))
 (pE (aE (PW.pt (bF (aU (aQ (aB kr ?S U (pA (pv 8) pC)))) (bJ (aU (aQ (aB jK ?S U (pA (pv 8) (pA (pv 9) (pA ?E (pA (pv 2) pC)))))))))) ?O am)
 (pE (pN (i:=10) nd U ?D (aB iJ ?S U (pA (pv 8) pC)))
 (pE (aE (pP (nF IL) (pv 10) (CI T.tuple T.range (pA (pv 6) (pA (aT bY (pv 6) (bq T.len (pA (pv 10) pC))) pC))) (pQ _)) ?O am)
 (pE (qE (i:=6) nd U ?D (bq T.len (pA (pv 10) pC)) (C8))
 (pH (cY (y9 (pv 7) (pA (BE (aB jf ?S U (pA (pv 8) (pA (pv 9) (pA (aB lV ?S U (pA (pv 8) (pA (pv 9) pC))) pC)))) (cC (iT g9 pG))) pC))))))))))
 ?O)))),?_⟩
   ext b;obtain⟨t,x,y,z,rfl,ht,hx,hy,hz⟩:=gD td;obtain rfl:=hx.str_of;obtain rfl:=hy.int_of;refine ab λsw jB=>?_;refine⟨_,U,t,_,U,ht,U,_,_,U,_,_,U,_,_,U,U,?_⟩;refine jB _ _ (ab λjP f9=>?_);refine⟨_,U,?_⟩;refine f9 _ _ (ab λjx fC=>?_);refine⟨_,U,_,U,c,U,by omega,by omega,λD hD=>?_⟩;have kD:=smu (o:=HO.dK []) hD;refine jV.by (bo (lo:=0) (n:=c.toNat)) (λi _ σ r=>aA H r/\r D=some (.dK (iq [] "param" (rgI 0 i)))/\∃ y,σ=[y]) ⟨kD,pF,_,U⟩ (λ_ _ _ _ _ _=>trivial) ?_ ?_
   · rintro i x _ σ r hx ⟨si,hDi,y,rfl⟩;have IG:x=.int ?J/\i<c.toNat:=by
      unfold L2.bN at hx;rw[gEM] at hx;obtain⟨j,hj,rfl⟩:=oMS.mp hx;have hlt:=(gES.mp hj).1;rw[List.length_range] at hlt;rw[List.getElem?_range hlt] at hj;cases hj;exact⟨by simp,hlt⟩
     obtain⟨rfl,hi⟩:=IG;rw[aL,fq];refine aJ ⟨_,U,_,.inl ?J,U,hDi,?_,aK si hD,?_,_,U⟩
     · have:=iP [] "param" (rgI 0 i);unfold rgI at this;rw[lMp,List.length_range] at this;show _<sizeLine;simp only[List.length_nil] at this;unfold rgI;omega
     · rw[pF];have e:rgI 0 (i+1)=rgI 0 i++[?J]:=by unfold rgI;rw[List.range_succ,List.map_append];simp
       rw[e,mn]
   rintro _ σ r ⟨s1,hD1,y,rfl⟩;have hD1':r D=some (.dK (iq [] "param" (rgI 0 c.toNat))):=by
    have:(L2.bN 0 c.toNat).length=c.toNat:=by unfold L2.bN;rw[lMp,List.length_range]
    rw[this] at hD1;exact hD1
   clear hD1;have hDH:=hD;refine⟨jk,λt0 ht0=>?_⟩;have k3:=smu (o:=HO.tup [z,.ref D]) ht0;have J4:(upd r t0 (.tup [z,.ref D])) t0=some (.tup [z,.ref D]):=pF;generalize upd r t0 (.tup [z,.ref D])=H3 at k3 J4 ⊢;refine⟨v3,λW hW=>?_⟩;have k4:=smu (o:=HO.lst [.ref t0]) hW;have hW4:(upd H3 W (.lst [.ref t0])) W=some (.lst [.ref t0]):=pF;have hWH:H W=none:=kH (s1.trans k3) hW;have kk:=(s1.trans k3).trans k4;have hD4:=k4 _ _ (k3 _ _ hD1');have ht4:=k4 _ _ J4;ext h;generalize upd H3 W (.lst [.ref t0])=H4 at k4 hW4 kk hD4 ht4 ⊢;have hs0:eY (iq [] "param" (rgI 0 c.toNat)) (kn0 c) 0:=Ds.puts "param" (rgI 0 c.toNat);have hl0:(iq [] "param" (rgI 0 c.toNat)).length<=4:=by
    have:=iP [] "param" (rgI 0 c.toNat);unfold rgI at this ⊢;rw[lMp,List.length_range] at this;simp only[List.length_nil] at this;omega
   have hk0:jI (kn0 c) 0:=jI.put (λx v a e=>by cases e) false (rgI 0 c.toNat);generalize hR:fit (aX fs O) 40 (kn0 c) 0 (c,[]) b=R at q;refine⟨λk σ r=>aA H r/\∃ (ws:List V) (l:List Ge) (C:Int) (cs:List Int) (x8 x9 x10:Option V),σ=[some (.ref t),some vf,some vr,some (.str hh),some (.int c),some z,some (.int C),some (.ref W),x8,x9,x10]/\r W=some (.lst ws)/\Prs K r ws (l.map λg=>(g.e.d,g.a))/\(∀ g∈l,Wt K r g)/\ly (aX fs O) (l.reverse.map (·.e)) (C,cs)=R/\k=wsG l/\wsG l<=90000/\0<=C/\C+4*((wsG l:Nat):Int)<=400000,
     ⟨_,kk,[.ref t0],[⟨⟨40,kn0 c,0,b⟩,D,iq [] "param" (rgI 0 c.toNat)⟩],c,[],_,_,_,U,hW4,.cons ht4 (hz.same kk) .nil,λg hg=>?_,?_,U,?_,c0,?_⟩,?_⟩
   · rw[mSg.mp hg];exact⟨IM,hk0,hD4,hs0,by show (iq [] "param" (rgI 0 c.toNat)).length+4*40<=200;omega⟩
   · rw[<- hR];show (fit (aX fs O) 40 (kn0 c) 0 (c,[]) b).bind (ly (aX fs O) [])=_;cases fit (aX fs O) 40 (kn0 c) 0 (c,[]) b <;> rfl
   · show wts [b]<=_;rw[wts,wts];omega
   · show c+4*((wts [b]:Nat):Int)<=_;rw[wts,wts];omega
   rintro k σ r ⟨sm,ws,l,C,cs,x8,x9,x10,rfl,Jr,I,hl,ID,rfl,hwl,hf0,hf1⟩;refine⟨_,U,_,.inl ⟨ws,SqL.of Jr,U⟩,?_⟩
   rcases List.eq_nil_or_concat l with rfl | ⟨l',g,rfl⟩
   · cases I;refine pJ ?G ?_;refine gH _ _ ?_;have hR':R=some (C,cs):=ID.symm;rw[hR'] at q;exact q r sm
   obtain⟨⟨gf,G,n,d⟩,a,s⟩:=g;rw[List.concat_eq_append] at I hl ID hwl hf1 ⊢;rw[List.map_append] at I;obtain⟨m,t1,x,rfl,Z,Ie,tx⟩:=Prs.last I;replace Ie:r t1=some (.tup [x,.ref a]):=Ie;replace tx:BD K r x d:=tx;obtain⟨gd,gk,ga,gs,gl⟩:=hl ⟨⟨gf,G,n,d⟩,a,s⟩ (List.mem_append_right _ (mSg.mpr rfl));replace gd:dp d<=gf:=gd;replace gk:jI G n:=gk;replace ga:r a=some (.dK s):=ga;replace gs:eY s G n:=gs;replace gl:s.length+4*gf<=200:=gl;obtain⟨gf,rfl⟩:∃ f',gf=f'+1:=⟨gf-1,by have:=xF d;omega⟩;rw[List.reverse_append,List.map_append] at ID;replace ID:ly (aX fs O) (⟨gf+1,G,n,d⟩::l'.reverse.map (·.e)) (C,cs)=R:=ID;rw[uA] at ID;rw[iL] at hwl hf1;have hw1:wsG [⟨⟨gf+1,G,n,d⟩,a,s⟩]=wt d:=by show wts [d]=_;rw[wts,wts];omega
   rw[hw1] at hwl hf1;have hkw:=(jA d).1;have hkd:=(jA d).2;have hpl:=Z.length;rw[lMp] at hpl;have hlw:l'.length<=wsG l':=by have:=cN (l'.map λg=>g.e.d);rw[lMp] at this;exact this
   refine pK (by cases m <;> rfl) ?_;refine⟨_,λσ' H' z=>z,?_⟩;refine ab λsv jj=>?_;refine⟨_,U,.inl ⟨U,_,SqL.of Jr⟩,W,_,.ref t1,U,U,Jr,by simp,?_⟩;rw[List.dropLast_concat];have sm5:aA H (upd r W (.lst m)):=aK sm hWH;have hW5:(upd r W (.lst m)) W=some (.lst m):=pF;have o5:∀ b o,(∀ ys,o≠.lst ys)->r b=some o->(upd r W (.lst m)) b=some o:=λb o ho z=>by rw[ai λe=>by rw[e,Jr] at z;exact ho _ (Option.some.inj z).symm];exact z
   have Jo:Prs K (upd r W (.lst m)) m (l'.map λg=>(g.e.d,g.a)):=Z.put Jr;have N:=tx.kp (cK (xs:=m) (.inr ⟨_,Jr⟩));have ht5:=o5 t1 (.tup [x,.ref a]) (λ_ z=>nomatch z) Ie;have ha5:=o5 a (.dK s) (λ_ z=>nomatch z) ga;have hl5:∀ g∈l',(upd r W (.lst m)) g.a=some (.dK g.kvs):=λg hg=>o5 _ _ (λ_ z=>nomatch z) (hl g (List.mem_append_left _ hg)).a;generalize upd r W (.lst m)=H5 at sm5 hW5 Jo N ht5 ha5 hl5 ⊢;refine⟨t1,_,U,SqT.of ht5,U,_,_,U,_,_,U,U,?_⟩;refine jj _ _ (ab λyn mD=>?_);have bad:∀ H',aA H H'->eP (aX fs O) G n C d=false->Q (.bl false) H':=λH' s' hn=>by
    rw[show ((C,cs):Wk).1=C from rfl,hn,if_neg ?G] at ID;rw[<- ID] at q;exact q H' s'
   refine⟨_,U,x,d,U,N,by omega,λH6 k6=>⟨_,U,?_⟩⟩;have s06:=sm5.trans k6;cases F:cB d with
   | false=>exact aJ (aJ (bad H6 s06 (by unfold eP;rw[F];rfl)))
   | true =>
   refine aP ⟨_,U,_,U,_,U,_,U,x,vf,vr,a,d,s,G,n,fs,O,U,N.same k6,F,k6 _ _ ha5,gs,hvf.same s06,JU,hvr.same s06,hrs,_,U,?_⟩;cases Ju:gy (aX fs O) G n d with
   | false=>exact aJ (bad H6 s06 (by unfold eP;rw[F,Ju];rfl))
   | true =>
   refine aP (mD _ _ (ab λBX qX=>?_));refine⟨_,U,x,d,U,N.same k6,F,λv7 H7 k7 t7=>?_⟩;have hbi:=tu F;rw[hbi.2] at t7;obtain⟨bi,bus,rfl,Y,hbus⟩:=t7.tup_of;obtain rfl:=xU hbus;have hlb:(((cZ d).map aY).map V.int).length=(cZ d).length:=by rw[lMp,lMp]
   have k57:=k6.trans k7;have s07:=sm5.trans k57;refine qX _ _ (ab λGQ Ay=>?_);refine⟨_,U,_,U,_,U,_,U,bi,_,U,.inr Y,_,_,U,U,C,(((cZ d).map aY).map V.int).length,U,⟨by omega,by omega⟩,by omega,λu Ix=>?_⟩;rw[hlb];have k8:=smu (o:=HO.tup ((List.range (cZ d).length).map λj=>V.int (C+((j:Nat):Int)))) Ix;have hu8:SqT K (upd H7 u (.tup ((List.range (cZ d).length).map λj=>V.int (C+((j:Nat):Int))))) u ((rgI C (cZ d).length).map V.int):=by
    refine SqT.of ?_;rw[pF];unfold rgI;rw[List.map_map];rfl
   generalize upd H7 u (.tup ((List.range (cZ d).length).map λj=>V.int (C+((j:Nat):Int))))=H8 at k8 hu8 ⊢;refine⟨_,_,Fj (k8.seqT Y),Fj hu8,shT _,shT _,_,U,?_⟩;rw[Hb];have s08:=s07.trans k8;by_cases J:(cZ d).map aY=rgI C (cZ d).length
   case neg =>
    rw[decide_eq_false J];exact aJ (bad H8 s08 (by unfold eP;rw[decide_eq_false J,Bool.and_false]))
   rw[decide_eq_true J];have hnode:eP (aX fs O) G n C d=true:=by unfold eP;rw[F,Ju,decide_eq_true J];rfl
   rw[show ((C,cs):Wk).1=C from rfl,hnode,if_pos U] at ID;refine aP (Ay _ _ (ab λGP Ax=>?_));refine⟨_,U,_,U,bi,_,U,.inr (k8.seqT Y),_,_,U,U,?_⟩;rw[hlb];refine Ax _ _ ?_;have S:=k57.trans k8;have hW8:=S _ _ hW5;refine⟨_,U,.inl ⟨U,_,SqL.of hW8⟩,_,U,_,U,_,U,_,U,x,a,d,s,G,n,U,N.same S,F,S _ _ ha5,gs,gk,by omega,λa' JY KD k10 ha10 hs10 hl10=>?_⟩;refine⟨x,a,a',d,U,N.same (S.trans k10),F,by omega,λL zl JO k11 hL hL11 hz11=>?_⟩;refine⟨_,U,_,U,L,zl,U,U,SqL.of hL11,λp hp=>?_⟩;have k12:=smu (o:=HO.lst zl.reverse) hp;have hp12:(upd JO p (.lst zl.reverse)) p=some (.lst zl.reverse):=pF;have B:=S.trans (k10.trans (k11.trans k12));have M:=B _ _ hW5;have hzl':=hz11.length;have hsl:(scp a a' (bw d)).length=(bw d).length:=by unfold scp;rw[List.length_mapIdx]
   have hz12:=(hz11.same k12).rev;have ha12:=k12 _ _ (k11 _ _ ha10);generalize upd JO p (.lst zl.reverse)=H12 at k12 hp12 B M hz12 ha12 ⊢;have g12:∀ b kv,H12 b=some (.dK kv)->(upd H12 W (.lst (m++zl.reverse))) b=some (.dK kv):=λb kv z=>by
    rw[ai λe=>by rw[e,M] at z;cases z];exact z
   have hkl:=cN (bw d);have hpl5:=Jo.length;refine⟨W,p,m,zl.reverse,U,U,M,hp12,by rw[List.length_reverse];omega,wsG (l'++(lP gf G n (lQ d G n) (iZ d n) a a' s KD (bw d)).reverse),?_,aK (sm5.trans B) hWH,m++zl.reverse,l'++(lP gf G n (lQ d G n) (iZ d n) a a' s KD (bw d)).reverse,C+(((cZ d).length:Nat):Int),cs++eV d,_,_,_,U,pF,?_,λg hg=>?_,?_,U,?_,by omega,?_⟩
   · rw[iL,iL,mX,hw1];unfold wsG;rw[qU];omega
   · rw[List.map_append,List.map_reverse,qT];exact ((Jo.same B).app hz12).put M
   · rcases mAp.mp hg with hg | hg
     · obtain⟨z1,z2,z3,z4,z5⟩:=hl g (List.mem_append_left _ hg);exact⟨z1,z2,g12 _ _ (B _ _ (hl5 g hg)),z4,z5⟩
     · obtain⟨z1,z2,z3⟩:=oZ (List.mem_reverse.mp hg);have hd':=hkd _ z1;refine⟨by rw[z2];omega,?_,?_,?_,?_⟩
       · rcases z3 with ⟨e1,e2,_⟩ | ⟨e1,e2,_⟩
         · rw[e1,e2];exact gk
         · rw[e1,e2];unfold lQ;refine jI.put ?_ _ _;unfold iZ;split
           · exact gk.up
           · exact gk
       · rcases z3 with ⟨_,_,e3,e4⟩ | ⟨_,_,e3,e4⟩
         · rw[e3,e4];exact g12 _ _ (B _ _ ha5)
         · rw[e3,e4];exact g12 _ _ ha12
       · rcases z3 with ⟨e1,e2,_,e4⟩ | ⟨e1,e2,_,e4⟩
         · rw[e1,e2,e4];exact gs
         · rw[e1,e2,e4];exact hs10
       · rcases z3 with ⟨_,_,_,e4⟩ | ⟨_,_,_,e4⟩ <;> rw[e4,z2] <;> omega
   · rw[List.reverse_append,List.reverse_reverse,List.map_append,wQ];exact ID
   · rw[iL,mX];unfold wsG;unfold wsG at hwl;rw[qU];omega
   · rw[iL,mX];have e9:wsG (lP gf G n (lQ d G n) (iZ d n) a a' s KD (bw d))=wts (bw d):=by unfold wsG;rw[qU]
     rw[e9];have:=hbi.1;omega
end
end K13
namespace L2
open PySem PySem.Spec PyProof.Rows
section
variable {X:Cx} {p pos:Pos} {e f o:Expr} {es:List Expr} {t:TA} {b E O:TE} {W Y:Pos}
inductive xY (a:Addr) (y z:V) (H:Hp) (Q:VK):Prop
  | mk (kvs:List (Key×V)) (k:Key) (h1:H a=some (.dK kvs)) (h2:y=kV k) (h3:kvs.length<sizeLine) (q1:∀ v,bd kvs k=some v->Q v H) (q2:bd kvs k=none->Q z (upd H a (.dK (cr kvs k z)))):xY a y z H Q
def CT (b E O:TE):TE:=λσ H Q=>b σ H λx H1=>∃ a,x=.ref a/\IsD H1 a/\E σ H1 λy H2=>O σ H2 λz H3=>xY a y z H3 Q
def wq (R:PE X o b) (he:PE X e E) (Z:PE X f O) (m:M2 X o "setdefault" W e f Y):PE X (.Call (.Attribute o "setdefault" W) [e,f] [] Y) (CT b E O):=by
 intro g s T H Q I h;refine wpAny_Call_method m.base m.few m.line PySem.F.plainAttrs_dict PySem.F.slot_dict_setdefault PySem.F.type_dict_setdefault (thn (R g s T H _ I h) λu s1 n=>?_);obtain⟨x,H1,K,rx,a,S,d,q1⟩:=n;subst S;obtain rfl:u=Value.ref a:=rx;obtain⟨t1,t2,_⟩:=nP K d;refine⟨t1,t2,?_⟩;rw[m.trees];refine Calls.callWith_builtin U (Calls.evalArgs_plain (Calls.spliced_cons (thn (he g s1 T H1 _ K q1) λiv s2 p=>?_)));obtain⟨y,L,I2,ry,q2⟩:=p;refine Calls.spliced_cons (thn (Z g s2 T L _ I2 q2) λfv s3 l=>?_);obtain⟨z,H3,A,J,c,k,D,rfl,hl,P,qb⟩:=l;refine Calls.spliced_nil ?_;obtain⟨zz,G,B,i,C⟩:=ij A.hok D;have hz:B.length<=sizeLine:=by rw[<- i.length];exact zz
 have t:(cr c k z).length<=sizeLine:=by have:=bS c k z;omega
 refine call_meetsIn PySem.F.slot_dict_setdefault C.typeIs PySem.F.entry_dict_setdefault (PySem.F.args_dict_setdefault_3 _ _ _) (kt_meets_setdefault (aI X.prog X.w) a (fX ry) G fv) ⟨B,C,hz,λv N=>?_,λhn h' r hs=>?_⟩
 · obtain⟨j,II,rv⟩:∃ j,bd c k=some j/\bh j v:=by
    have:=i.val k;rw[N] at this;cases e:bd c k with
    | none=>rw[e] at this;cases this
    | some j=>rw[e] at this;exact⟨j,U,this⟩
   exact⟨j,H3,A.tok _,rv,P j II⟩
 · have M:bd c k=none:=by
    have:=i.val k;rw[hn] at this;cases e:bd c k with
    | none=>rfl
    | some j=>rw[e] at this;cases this
   have he:∃ q,h'.get? a=some q:=let ⟨q,_,_,hq,_⟩:=r;⟨q,hq⟩;exact⟨z,_,dG A (by rw[D];exact True.intro) hs he (iE t G (i.put k J) r),J,qb M⟩
end
def Bi (P:Program) (w:World) (t:TS):TS:=λD σ H=>t {D with nx:=λσ' H'=>∃ d o kvs,H' d=some (DKo P w d o kvs)/\D.nx σ' (upd H' d (.dK kvs))} σ H
def yZ {st:Stmt} (h:PS X st t):PS X st (Bi X.prog X.w t):=by
 intro a s σ H D I j;refine thn (h a s σ H _ I j) λf m z=>?_;cases f with
 | next =>
  obtain⟨b,n,i,d,o,e,g,q⟩:=z;obtain⟨k,c⟩:=jG i.hok g;exact⟨b,_,dG i (by rw[g];exact True.intro) ⟨U,λ_ _=>rfl⟩ ⟨o,k⟩ (show bV X.prog X.w _ m.heap d (.dK e) from c),q⟩
 | _=>exact z
def aV.enumT {K:Fg} {a:Addr} {xs:List V} {g:TG} {n:TS} {D:iK} {b:St} {H:Hp} (c:Nat->St->Hp->Prop) (p:c 0 b H) (r:∀ i b H,i<=xs.length->c i b H->SqT K H a xs)
 (s:∀ i x b H t,xs[i]?=some x->c i b H->H t=none->g (.ref t) b (upd H t (.tup [.int ?J,x])) λh u=>n {D with nx:=c (i+1),ct:=c (i+1),bk:=D.nx} h u) (w:∀ b H,c xs.length b H->D.nx b H):aV (yc K a) g n D b H:=by
 refine⟨λi m b H=>i<=xs.length/\m=xs.length-i/\c i b H,⟨_,Nat.zero_le _,U,p⟩,λi m b H z=>?_⟩;obtain⟨y,A,j⟩:=z;have k:=r i b H y j;by_cases d:i<xs.length
 · refine .inr ⟨⟨xs,xs[i],k,by simp[d]⟩,λf l=>c (i+1) f l,λf l q=>⟨xs.length-(i+1),by rw[A];exact Nat.sub_succ_lt_self _ _ d,d,U,q⟩,?_⟩;rintro v l ⟨t,x,rfl,B,rfl,C⟩;exact s i x b H t (C xs k) j B
 · have:i=xs.length:=by omega
   subst this;exact .inl ⟨⟨xs,k,Nat.le_refl _⟩,w b H j⟩
def BW:∀ {l B:List Int},l.Nodup->(∀ x∈l,x∈B)->l.length<=B.length:=by
 intro l
 induction l with
 | nil=>intro B _ _;exact Nat.zero_le _
 | cons x r g =>
  intro B c h;have a:=h x mCS;obtain⟨f,d⟩:=List.nodup_cons.mp c;have:=g (B:=B.erase x) d λy b=>(List.mem_erase_of_ne λe=>f (by rw[<- e];exact b)).mpr (h y (mCM _ b));rw[List.length_erase_of_mem a] at this;have:=List.length_pos_of_mem a;rw[List.length_cons];omega
end L2
namespace K13
open PySem L2 PySem.Spec PyProof.Rows PySem.SeqAt
def sd (ks:List Int):List (Key×V):=ks.map λi=>(.inl i,.bl true)
def fB (ks:List Int) (i:Int):List Int:=if i∈ks then ks else ks++[i]
def np (ks:List Int) (i:Int):bd (sd ks) (.inl i)=if i∈ks then some (.bl true) else none:=by
 induction ks with
 | nil=>rfl
 | cons k r a =>
  by_cases e:k=i
  · subst e;rw[if_pos mCS];exact ce rfl
  · have b:bd (sd (k::r)) (.inl i)=bd (sd r) (.inl i):=cE (λz=>e (Sum.inl.inj z));rw[b,a];by_cases h:i∈r
    · rw[if_pos h,if_pos (mCM _ h)]
    · grind
def vL (ks:List Int) (i:Int):cr (sd ks) (.inl i) (.bl true)=sd (fB ks i):=by
 unfold fB;by_cases h:i∈ks
 · rw[if_pos h];unfold cr;rw[cy,np,if_pos h];conv=>rhs;rw[<- List.map_id (sd ks)]
   refine List.map_congr_left λp a=>?_;obtain⟨k,b,rfl⟩:=List.mem_map.mp a;split <;> rfl
 · rw[if_neg h,kZ _ (by rw[np,if_neg h])];unfold sd;rw[List.map_append];rfl
def eD:j∈fB ks i↔j∈ks\/j=i:=by
 unfold fB;by_cases h:i∈ks
 · grind
 · rw[if_neg h];simp
def zD (ks:List Int) (i:Int):(fB ks i).length<=ks.length+1:=by
 unfold fB;split
 · omega
 · simp
def kR (ks:List Int):(sd ks).length=ks.length:=by unfold sd;rw[lMp]
def C9 (h:ks.Nodup):(fB ks i).Nodup:=by
 unfold fB;split
 · exact h
 · grind
structure CaD (Av:Addr->Prop) (H:Hp) (ca:Addr) (R:Int->Int->Prop) (n:Nat):Prop where
  ex:∃ kvs,H ca=some (.dK kvs)/\kvs.length<=n/\(∀ f v,bd kvs (.inl f)=some v->∃ (l:Addr) (ls:List Int),v=.ref l/\l≠ca/\H l=some (.dK (sd ls))/\ls.length<=n/\¬ Av l/\∀ j,j∈ls↔R f j)/\(∀ f,bd kvs (.inl f)=none->∀ j,¬ R f j)/\∀ f f' l,bd kvs (.inl f)=some (.ref l)->bd kvs (.inl f')=some (.ref l)->f=f'
section
variable {K:Addr->Prop} {H H':Hp} {E x:Addr} {R:Int->Int->Prop} {n:Nat}
def CaD.same (c:CaD K H E R n) (s:aA H H'):CaD K H' E R n:=by
 obtain⟨d,q,j,g,p,k⟩:=c.ex;refine⟨d,s _ _ q,j,λf v i=>?_,p,k⟩;obtain⟨l,h,e,o,a,b,m,r⟩:=g f v i;exact⟨l,h,e,o,s _ _ a,b,m,r⟩
def CaD.put (c:CaD K H E R n) (j:K x) (w:x≠E):CaD K (upd H x o) E R n:=by
 obtain⟨d,t,p,i,s,q⟩:=c.ex;refine⟨d,by rw[ai (Ne.symm w)];exact t,p,λf v m=>?_,s,q⟩;obtain⟨l,k,e,r,a,b,h,u⟩:=i f v m;have:l≠x:=λz=>h (by rw[z];exact j);exact⟨l,k,e,r,by rw[ai this];exact a,b,h,u⟩
def CaD.iff (c:CaD K H E R n) (h:∀ f j,R f j↔R' f j):CaD K H E R' n:=by
 obtain⟨d,s,m,g,r,o⟩:=c.ex;refine⟨d,s,m,λf v k=>?_,λf e j z=>r f e j ((h f j).mpr z),o⟩;obtain⟨l,i,e,q,a,b,p,t⟩:=g f v k;exact⟨l,i,e,q,a,b,p,λj=>(t j).trans (h f j)⟩
def CaD.less (c:CaD K H E R n) (h:∀ x,Av' x->K x):CaD Av' H E R n:=by
 obtain⟨d,r,k,g,q,m⟩:=c.ex;refine⟨d,r,k,λf v j=>?_,q,m⟩;obtain⟨l,i,e,p,a,b,o,s⟩:=g f v j;exact⟨l,i,e,p,a,b,λz=>o (h l z),s⟩
def CaD.av (c:CaD K H E R n) (k:H wa=none):CaD (λx=>K x\/x=wa) H E R n:=by
 obtain⟨d,r,j,g,q,o⟩:=c.ex;refine⟨d,r,j,λf v i=>?_,q,o⟩;obtain⟨l,h,e,p,a,b,m,s⟩:=g f v i;exact⟨l,h,e,p,a,b,λz=>z.elim m (aD a k),s⟩
def CaD.add (c:CaD K H E R n) (hn:n<sizeLine) (N:H p=none) (L:¬ K p) 
 (q:∀ (l:Addr) (C:List Int) (M:Hp),M l=some (.dK (sd C))->C.length<=n->(l≠E/\¬ K l/\(∀ a u,H a=some u->a≠E->M a=some u)/\CaD K (upd M l (.dK (sd (fB C j)))) E (λr I=>R r I\/(r=f/\I=j)) (n+1))->Q (.ref l) M):
 xY E (.int f) (.ref p) (upd H p (.dK [])) Q:=by
 obtain⟨i,h1,h2,P,h4,Z⟩:=c.ex;have O:=aD h1 N;have B:=smu (o:=HO.dK []) N;refine⟨i,.inl f,B _ _ h1,U,by omega,λv D=>?_,λD=>?_⟩
 · obtain⟨l,C,rfl,Y,a,b,k,t⟩:=P f v D;refine q l C _ (B _ _ a) b ⟨Y,k,λa u e _=>B _ _ e,?_⟩;refine⟨i,by rw[ai (Ne.symm Y)];exact B _ _ h1,by omega,λr v' s=>?_,λr e I z=>?_,Z⟩
   · by_cases h:r=f
     · subst h;rw[D] at s;cases s;refine⟨l,fB C j,U,Y,pF,by have:=zD C j;omega,k,λm=>?_⟩;rw[eD,t];exact or_congr Iff.rfl ⟨λz=>⟨U,z⟩,λz=>z.2⟩
     · obtain⟨J,w,rfl,x,A,b',G,F⟩:=P r v' s;have:J≠l:=λz=>h (Z r f l (by rw[<- z];exact s) D);refine⟨J,w,U,x,by rw[ai this];exact B _ _ A,by omega,G,λm=>?_⟩;rw[F];exact⟨.inl,λz=>z.resolve_right λy=>h y.1⟩
   · rcases z with z | ⟨z,_⟩
     · exact h4 r e I z
     · rw[z,D] at e;cases e
 · refine q p [] _ (by rw[ai (Ne.symm O)];exact pF) (Nat.zero_le _) ⟨Ne.symm O,L,λa u e ha=>by rw[ai ha];exact B _ _ e,?_⟩;refine⟨cr i (.inl f) (.ref p),by rw[ai O];exact pF,by have:=bS i (.inl f) (.ref p);omega,λr v' s=>?_,λr e I z=>?_,λf1 W l k t=>?_⟩
   · rw[dh] at s;by_cases h:r=f
     · subst h;rw[if_pos U] at s;cases s;refine⟨p,[j],U,Ne.symm O,pF,by show 1<=_;omega,L,λm=>?_⟩;rw[mSg];exact⟨λz=>.inr ⟨U,z⟩,λz=>z.elim (λy=>absurd y (h4 r D m)) λy=>y.2⟩
     · rw[if_neg (λz=>h (Sum.inl.inj z))] at s;obtain⟨J,w,rfl,x,A,b',G,F⟩:=P r v' s;have n1:=aD A N;refine⟨J,w,U,x,by rw[ai n1,ai x];exact B _ _ A,by omega,G,λm=>?_⟩;rw[F];exact⟨.inl,λz=>z.resolve_right λy=>h y.1⟩
   · rw[dh] at e;by_cases h:r=f
     · rw[h,if_pos U] at e;cases e
     · rw[if_neg (λz=>h (Sum.inl.inj z))] at e
       rcases z with z | ⟨z,_⟩
       · exact h4 r e I z
       · exact h z
   · rw[dh] at k t;have nw:∀ g,bd i (.inl g)≠some (.ref p):=λg z=>by
      obtain⟨J,w,e,_,A,_⟩:=P g _ z;cases e;rw[N] at A;cases A
     by_cases S:f1=f <;> by_cases T:W=f
     · rw[S,T]
     · rw[if_pos (by rw[S])] at k;rw[if_neg (λz=>T (Sum.inl.inj z))] at t;cases k;exact absurd t (nw W)
     · rw[if_pos (by rw[T])] at t;rw[if_neg (λz=>S (Sum.inl.inj z))] at k;cases t;exact absurd k (nw f1)
     · rw[if_neg (λz=>S (Sum.inl.inj z))] at k;rw[if_neg (λz=>T (Sum.inl.inj z))] at t;exact Z f1 W l k t
end
inductive Rch (R:Int->Int->Prop) (x:Int):Int->Prop
  | refl:Rch R x x
  | step {y z:Int} (h:Rch R x y) (e:R y z):Rch R x z
def kI {ks:List Int} (a:ks.Nodup) (h:∀ i∈ks,∃ m:Nat,i=((m:Nat):Int)/\m<n):ks.length<=n:=by
 have:=BW a λi c=>by
  obtain⟨m,e,b⟩:=h i c;exact List.mem_map.mpr ⟨m,List.mem_range.mpr b,e.symm⟩
 rw[lMp,List.length_range] at this;exact this
section
variable {P:Program} {w:World} {K:Fg} {r:SOV} {base:Heap}
abbrev sRe:Stmt:=top 15
abbrev nRe:List Str:=["callees","start","met","waiting","caller","callee"]
def Dz:aM nRe ["callees","start"] (ad sRe):=fsM
inductive AM (K:Fg) (vs:List V) (H:Hp) (Q:VK):Prop
  | mk (ca:Addr) (st:Int) (R:Int->Int->Prop) (n:Nat) (h0:vs=[.ref ca,.int st]) (h1:CaD (λ_=>False) H ca R n) (h2:n<=900000) (h3:∀ j,Rch R st j->∃ m:Nat,j=((m:Nat):Int)/\m<60)
    (q:∀ a H' ks,aA H H'->H a=none->H' a=some (.dK (sd ks))->(∀ i,i∈ks↔Rch R st i)->Q (.ref a) H'):AM K vs H Q
def D8 (K:Fg):Sp:=λvs H Q _=>AM K vs H Q
def Em (D:Def K r "reached" sRe):Fn P w K r base "reached" 1 ["callees","start"] (D8 K):=by
 refine D.fn Dz ?P (λ_ _ _ _ _ _ us hl=>by obtain⟨a,b,rfl⟩:=f8 hl;rfl) ?X
 · obtain⟨ca,G,R,n,rfl,_⟩:=h;rfl
 · obtain⟨ca,G,R,n,rfl,cd,hn,hb,q⟩:=h;have nd:=Dz.nd;have hu:=dN hr;ext c
   refine⟨_,(pE (pN (i:=2) nd U ?D (@kE _ _ _ _ _ (@b0 _ _ _ _ _ _ _ _ _ ?E bf iR) U U ?B ?G))
 (pE (pN (i:=3) nd U ?D (bb (pA ?E pC)))
 (pE (l4 PassesOwn.never (gK (pv 3) (by intro _;rfl))
 (pE (pN (i:=4) nd U ?D (rp (pv 3)))
 (pH (yZ (cu PassesOwn.never U (E7 (l9 hu ?C (pv 4) fT ⟨U,U,U,U⟩)) (ax (i:=5) nd U ?D)
 (pH (aE (l0 (jv hu (pv 5) (pv 2))) (pE (dr hu (pv 2) (pv 5) bf U)
 (pH (cY (dL (pv 3) (pA (pv 5) pC))))) am)))))))
 (pH (ak (pv 2)))))),?_⟩
   ext b;refine ab λsw jB=>?_;refine λt JG=>⟨_,U,by rw[pF],[(.inl G,.bl true)],U,by show 1<=15;decide,?_⟩;have k1:aA H (upd (upd H t (.dK [])) t (.dK (br [] [(.inl G,.bl true)]))):=λa u z=>by rw[ai (aD z JG),ai (aD z JG)];exact z
   have hra1:(upd (upd H t (.dK [])) t (.dK (br [] [(.inl G,.bl true)]))) t=some (.dK (sd [G])):=pF;generalize upd (upd H t (.dK [])) t (.dK (br [] [(.inl G,.bl true)]))=H1 at k1 hra1 ⊢;refine jB _ _ (ab λjP f9=>?_);refine⟨_,U,v3,λM hwa=>?_⟩;have k2:=smu (o:=HO.lst [.int G]) hwa;have hwa2:(upd H1 M (.lst [.int G])) M=some (.lst ([G].map V.int)):=pF;have hra2:=k2 _ _ hra1;have s2:=k1.trans k2;have waH:=kH k1 hwa;have raw:t≠M:=aD hra1 hwa;obtain⟨kvsC,hcaC,_⟩:=cd.ex;have caw:ca≠M:=aD hcaC waH;have car:ca≠t:=aD hcaC JG;have cd2:CaD (λx=>(False\/x=t)\/x=M) (upd H1 M (.lst [.int G])) ca R n:=((cd.av JG).av waH).same s2;generalize upd H1 M (.lst [.int G])=H2 at s2 hwa2 hra2 cd2 ⊢;ext q;refine oD (λσ Hi=>aA H Hi/\∃ (F Z:List Int) (x4 x5:Option V),σ=[some (.ref ca),some (.int G),some (.ref t),some (.ref M),x4,x5]/\Hi t=some (.dK (sd F))/\Hi M=some (.lst (Z.map V.int))/\CaD (λx=>(False\/x=t)\/x=M) Hi ca R n/\F.Nodup/\Z.Nodup/\(∀ i∈F,Rch R G i)/\G∈F/\(∀ i∈Z,i∈F)/\∀ f,f∈F->f∉Z->∀ j,R f j->j∈F)
    (λ_ Hi=>match Hi t,Hi M with | some (.dK T),some (.lst Z)=>2*(60-T.length)+Z.length | _,_=>0)
    ⟨s2,[G],[G],_,_,U,hra2,hwa2,cd2,by simp,by simp,λi W=>by rw[mSg.mp W];exact .refl,mSg.mpr U,λi W=>W,λf h1 h2=>absurd h1 h2⟩ ?_
   rintro σ Hi ⟨si,F,Z,y4,y5,rfl,hrai,I,ci,knd,wnd,so,ini,sub,clo⟩;refine⟨_,U,_,.inl ⟨Z.map V.int,SqL.of I,U⟩,?_⟩
   rcases List.eq_nil_or_concat Z with rfl | ⟨B,f,rfl⟩
   · refine pJ ?G ?_;refine fC _ _ ⟨_,U,q t Hi F si JG hrai λi=>⟨so i,λh=>?_⟩⟩
     induction h with
     | refl=>exact ini
     | step _ e ih=>exact clo _ ih ?B _ e
   rw[List.concat_eq_append] at I wnd sub clo;have fk':f∈F:=sub f (List.mem_append_right _ (mSg.mpr U));obtain⟨wn1,_,wn2⟩:=List.nodup_append.mp wnd;have wl:(B++[f]).length<=60:=kI wnd λi W=>hb i (so i (sub i W));rw[lAp] at wl;refine pK (by rw[List.concat_eq_append];cases B <;> rfl) ?_;rw[List.map_append] at I;refine⟨λσ' H'=>(aA H H'/\∃ (F Z:List Int) (x4 x5:Option V),σ'=[some (.ref ca),some (.int G),some (.ref t),some (.ref M),x4,x5]/\H' t=some (.dK (sd F))/\H' M=some (.lst (Z.map V.int))/\CaD (λx=>(False\/x=t)\/x=M) H' ca R n/\F.Nodup/\Z.Nodup/\(∀ i∈F,Rch R G i)/\G∈F/\(∀ i∈Z,i∈F)/\∀ f,f∈F->f∉Z->∀ j,R f j->j∈F)/\∃ c L:List Int,H' t=some (.dK (sd c))/\H' M=some (.lst (L.map V.int))/\2*(60-c.length)+L.length<=2*(60-F.length)+B.length,?_,?_⟩
   · rintro σ' H' ⟨pv,c,L,a1,a2,a3⟩;refine⟨_,?_,U,pv⟩;rw[a1,a2,hrai,I];show 2*(60-(sd c).length)+(L.map V.int).length<2*(60-(sd F).length)+(B.map V.int++[V.int f]).length;rw[kR,kR,lMp,lAp,lMp];show _<_+(B.length+1);omega
   refine ab λoX iD=>?_;refine⟨_,U,.inl ⟨U,_,SqL.of I⟩,M,B.map V.int++[V.int f],V.int f,U,U,I,by simp,?_⟩;rw[List.dropLast_concat];refine iD _ _ ?_;have s3:aA H (upd Hi M (.lst (B.map V.int))):=aK si waH;have hra3:(upd Hi M (.lst (B.map V.int))) t=some (.dK (sd F)):=by rw[ai raw];exact hrai
   have hwa3:(upd Hi M (.lst (B.map V.int))) M=some (.lst (B.map V.int)):=pF;have c3:CaD (λx=>(False\/x=t)\/x=M) (upd Hi M (.lst (B.map V.int))) ca R n:=ci.put (.inr U) (Ne.symm caw);generalize upd Hi M (.lst (B.map V.int))=H3 at s3 hra3 hwa3 c3 ⊢;obtain⟨T,d1,d2,d3,d4,d5⟩:=c3.ex;refine⟨_,U,ca,U,.inl ⟨T,.inl d1⟩,_,U,λp hp=>?_⟩;have kp:=smu (o:=HO.dK []) hp;refine⟨bd T (.inl f),dC.k (k:=.inl f) (kp _ _ d1),?_⟩;obtain⟨l,C,eo,hl,hm,ll,lw,lr,lca⟩:∃ (l:Addr) (C:List Int),(bd T (.inl f)).getD (.ref p)=.ref l/\(upd H3 p (.dK [])) l=some (.dK (sd C))/\(∀ j,j∈C↔R f j)/\C.length<=n/\l≠M/\l≠t/\l≠ca:=by
    cases e:bd T (.inl f) with
    | none=>exact⟨p,[],U,pF,λj=>⟨λz=>(by cases z),λz=>absurd z (d4 f e j)⟩,Nat.zero_le _,Ne.symm (aD hwa3 hp),Ne.symm (aD hra3 hp),Ne.symm (aD d1 hp)⟩
    | some v =>
     obtain⟨l,C,rfl,lc,a,b,e1,e2⟩:=d3 f v e;exact⟨l,C,U,kp _ _ a,e2,b,λz=>e1 (.inr z),λz=>e1 (.inl (.inr z)),lc⟩
   rw[eo];have s4:=s3.trans kp;have hra4:=kp _ _ hra3;have hwa4:=kp _ _ hwa3;have c4:=c3.same kp;generalize upd H3 p (.dK [])=H4 at s4 hra4 hwa4 c4 hl ⊢;refine⟨l,sd C,U,hl,λo=>?_⟩;show aV _ _ _ _ _ _;refine aV.by (tM (P:=P) (w:=w) (d:=l) (o:=o) (kvs:=sd C)) (λk σ N=>N l=some (DKo P w l o (sd C))/\aA H (upd N l (.dK (sd C)))/\∃ (c L:List Int) (x5:Option V),σ=[some (.ref ca),some (.int G),some (.ref t),some (.ref M),some (.int f),x5]/\N t=some (.dK (sd c))/\N M=some (.lst (L.map V.int))/\CaD (λx=>(False\/x=t)\/x=M) (upd N l (.dK (sd C))) ca R n/\c.Nodup/\L.Nodup/\(∀ i∈c,Rch R G i)/\G∈c/\(∀ i∈L,i∈c)/\(∀ g,g∈c->g∉L->g≠f->∀ j,R g j->j∈c)/\f∈c/\(∀ j∈C.take k,j∈c)/\2*(60-c.length)+L.length<=2*(60-F.length)+B.length)
    ⟨pF,?_,F,B,_,U,by rw[ai (Ne.symm lr)];exact hra4,by rw[ai (Ne.symm lw)];exact hwa4,?_,knd,wn1,so,ini,λi W=>sub i (List.mem_append_left _ W),λg h1 h2 h3=>clo g h1 (λz=>by rcases mAp.mp z with z | z;exact h2 z;exact h3 (mSg.mp z)),fk',λj hj=>by simp at hj,Nat.le_refl _⟩ (λi σ N _ h=>h.1) ?_ ?_
   · have e:upd (upd H4 l (DKo P w l o (sd C))) l (.dK (sd C))=H4:=by
      funext b
      by_cases IY:b=l
      · rw[IY,pF];exact hl.symm
      · rw[ai IY,ai IY]
     rw[e];exact s4
   · have e:upd (upd H4 l (DKo P w l o (sd C))) l (.dK (sd C))=H4:=by
      funext b
      by_cases IY:b=l
      · rw[IY,pF];exact hl.symm
      · rw[ai IY,ai IY]
     rw[e];exact c4
   · rintro k u σ N huk ⟨HZ,sk,c,L,z5,rfl,O,hwak,ck,kn2,wn2,so2,ini2,J,clo2,fk2,dn2,me2⟩;rw[gEM] at huk;obtain⟨pr,Kc,rfl⟩:=oMS.mp huk;unfold sd at Kc;rw[gEM] at Kc;obtain⟨j,hj,rfl⟩:=oMS.mp Kc;have cj:R f j:=(hm j).mp (mGE hj);have tk1:∀ {l2:List Int},(∀ m∈C.take k,m∈l2)->j∈l2->∀ m∈C.take (k+1),m∈l2:=λ{l2} a b m Jy=>by
      rw[tAO,hj,mAp] at Jy
      rcases Jy with z | z
      · exact a m z
      · rw[show m=j by simpa using z];exact b
     refine⟨_,U,_,U,t,_,U,dC.k (k:=.inl j) O,_,U,?_⟩;rw[np];by_cases hjk:j∈c
     · rw[if_pos hjk];exact pJ ?G ⟨HZ,sk,c,L,_,U,O,hwak,ck,kn2,wn2,so2,ini2,J,clo2,fk2,tk1 dn2 hjk,me2⟩
     · rw[if_neg hjk];refine pK ?G ?_;have ei:fB c j=c++[j]:=by unfold fB;rw[if_neg hjk]
       have kn3:(fB c j).Nodup:=C9 kn2;have so3:∀ i∈fB c j,Rch R G i:=λi W=>by
        rcases eD.mp W with z | rfl
        · exact so2 i z
        · exact .step (so2 f fk2) cj
       have kl3:=kI kn3 λi W=>hb i (so3 i W);have kl2:(fB c j).length=c.length+1:=by rw[ei];simp
       have wl2:=kI wn2 λi W=>hb i (so2 i (J i W));refine⟨_,U,_,U,t,_,U,gY.k (k:=.inl j) O (by rw[kR];omega),?_⟩;rw[vL];have swp:∀ (a:Addr) (o1:HO),a≠l->upd (upd N a o1) l (.dK (sd C))=upd (upd N l (.dK (sd C))) a o1:=λa o1 ha=>by
        funext b
        by_cases Y:b=l
        · rw[Y,pF,ai (Ne.symm ha),pF]
        · by_cases S:b=a
          · rw[S,ai ha,pF,pF]
          · rw[ai Y,ai S,ai S,ai Y]
       have s5:aA H (upd (upd N t (.dK (sd (fB c j)))) l (.dK (sd C))):=by rw[swp _ _ (Ne.symm lr)];exact aK sk JG
       have hwa5:(upd N t (.dK (sd (fB c j)))) M=some (.lst (L.map V.int)):=by rw[ai (Ne.symm raw)];exact hwak
       have hra5:(upd N t (.dK (sd (fB c j)))) t=some (.dK (sd (fB c j))):=pF;have hl5:(upd N t (.dK (sd (fB c j)))) l=some (DKo P w l o (sd C)):=by rw[ai lr];exact HZ
       have c5:CaD (λx=>(False\/x=t)\/x=M) (upd (upd N t (.dK (sd (fB c j)))) l (.dK (sd C))) ca R n:=by rw[swp _ _ (Ne.symm lr)];exact ck.put (.inl (.inr U)) (Ne.symm car)
       clear swp;generalize upd N t (.dK (sd (fB c j)))=H5 at s5 hwa5 hra5 hl5 c5 ⊢;have swp:∀ (a:Addr) (o1:HO),a≠l->upd (upd H5 a o1) l (.dK (sd C))=upd (upd H5 l (.dK (sd C))) a o1:=λa o1 ha=>by
        funext b
        by_cases Y:b=l
        · rw[Y,pF,ai (Ne.symm ha),pF]
        · by_cases S:b=a
          · rw[S,ai ha,pF,pF]
          · rw[ai Y,ai S,ai S,ai Y]
       refine⟨_,U,.inl ⟨U,_,SqL.of hwa5⟩,_,U,M,_,_,U,U,hwa5,by rw[lMp];omega,?_⟩;refine⟨by rw[ai lw];exact hl5,by rw[swp _ _ (Ne.symm lw)];exact aK s5 waH,fB c j,L++[j],_,U,by rw[ai raw];exact hra5,by rw[pF,List.map_append];rfl,by rw[swp _ _ (Ne.symm lw)];exact c5.put (.inr U) (Ne.symm caw),kn3,?_,so3,eD.mpr (.inl ini2),λi W=>?_,λg h1 h2 h3 m h4=>?_,eD.mpr (.inl fk2),tk1 (λm Jy=>eD.mpr (.inl (dn2 m Jy))) (eD.mpr (.inr U)),by rw[kl2,lAp];show _+(L.length+1)<=_;omega⟩
       · rw[List.nodup_append];exact⟨wn2,by simp,λa ha b hb=>by rw[mSg] at hb;rw[hb];exact λe=>hjk (J j (e▸ha))⟩
       · rcases mAp.mp W with z | z
         · exact eD.mpr (.inl (J i z))
         · exact eD.mpr (.inr (mSg.mp z))
       · rcases eD.mp h1 with z | z
         · exact eD.mpr (.inl (clo2 g z (λy=>h2 (List.mem_append_left _ y)) h3 m h4))
         · exact absurd (List.mem_append_right _ (mSg.mpr z)) h2
   · rintro σ N ⟨HZ,sk,c,L,z5,rfl,O,hwak,ck,kn2,wn2,so2,ini2,J,clo2,fk2,dn2,me2⟩;rw[lMp,kR,List.take_length] at dn2;have hra6:(upd N l (.dK (sd C))) t=some (.dK (sd c)):=by rw[ai (Ne.symm lr)];exact O
     have hwa6:(upd N l (.dK (sd C))) M=some (.lst (L.map V.int)):=by rw[ai (Ne.symm lw)];exact hwak
     refine⟨l,o,sd C,HZ,⟨sk,c,L,_,_,U,hra6,hwa6,ck,kn2,wn2,so2,ini2,J,λg h1 h2 m h3=>?_⟩,c,L,hra6,hwa6,me2⟩;by_cases e:g=f
     · rw[e] at h3;exact dn2 m ((hm m).mpr h3)
     · exact clo2 g h1 h2 e m h3
end
end K13
namespace L2
open PySem PySem.Spec PyProof.Rows
def Ite (K:Fg) (a:Addr):It :=
  ⟨λi H=>∃ xs x,SqL K H a xs/\xs[i]?=some x,λi H v H'=>∃ t x,v=.ref t/\H t=none/\H'=upd H t (.tup [.int i,x])/\∀ xs,SqL K H a xs->xs[i]?=some x,λi H=>∃ xs,SqL K H a xs/\xs.length<=i⟩
def tX {P:Program} {w:World} {K:Fg} {Ic:List Expr} {k} {Z:Pos} (a e m:Addr) (Il:e≠m) :
 kh P w K (.Tuple Ic k Z) (Ite K a) [e,m] e (λi h=>(∃ y,IsEnum h e m i y)/\h.IsListIter m a i) where
 mem:=by simp
 obj:=λi h B b A=>by
  obtain⟨⟨y,C⟩,o,M,c,d⟩:=B
  rcases List.mem_cons.mp A with q | q
  · subst q;exact⟨_,C,λv z=>by cases z⟩
  · have l:b=m:=by simpa using q
    subst l;exact⟨o,M,λv z=>by rw[d] at z;cases z⟩
 keep:=λi h h' B k=>⟨let ⟨y,C⟩:=B.1;⟨y,k e ?B _ C⟩,B.2.at λo M=>k m ?B o M⟩
 item:=by
  intro X T hw hK g i D s σ H E I N B hg;subst T hw hK;obtain⟨xs,x,S,hx⟩:=hg;obtain⟨its,rv,p,hz⟩:=I.list S;obtain⟨u,hu,ru⟩:=rv.get hx;obtain⟨⟨y,C⟩,R⟩:=B;obtain⟨e0,e1,e2,e3,e4,e5⟩:=N e ?B;obtain⟨W,f1,f2,f3,f4,f5⟩:=N m ?B;refine wpAny_pyNext_enum_item C R p.isList (by simpa using hu) Il λh' M O hT hsz hk=>?_;refine⟨_,U,wpAny_letOwnedTupleGo_enum M λh2 JK G=>?_⟩;have J:=λb o q1 q2 z=>(G.2 b q1).trans (hk b o q1 q2 z);have J0:=Heap.lt_size C;have Y:=(G.2 _ (Nat.ne_of_gt J0)).trans hT;have JJ:=I.hok.fresh ?M;have Q:∀ {b:Addr} {o:HO},H b=some o->b≠s.heap.objs.size:=λ{b o} q z=>by rw[z,JJ] at q;cases q
  have ne:∀ {b:Addr} {o:HO},H b=some o->b≠e:=λ{b o} q z=>by rw[z,e0] at q;cases q
  have ni:∀ {b:Addr} {o:HO},H b=some o->b≠m:=λ{b o} q z=>by rw[z,W] at q;cases q
  have t:∀ {b:Addr},b∉[e,m]->b≠e/\b≠m:=λ{b} z=>⟨λq=>z (by simp[q]),λq=>z (by simp[q])⟩;have I2:Inv X D σ (upd H s.heap.objs.size (.tup [.int i,x])) {s with heap:=h2,toks:=s.toks+1}:=by
   refine I.step (g':=s.gens) (d':=s.drawn) (ch:=[e,m]) (λb A=>?_) (λb o _ _ g z _=>J b o (t g).1 (t g).2 z) (λb o _ _ g z _=>⟨o.slots,J b o (t g).1 (t g).2 z⟩) (λb o _ z n=>by rw[ai (Nat.ne_of_lt (Heap.lt_size z))];exact n)
    (λb o g z=>⟨o,J b o (t g).1 (t g).2 z⟩) (λb xs z=>by rw[ai (Q z)];exact z) (λb o u z=>by rw[ai (Q z)];exact z) (λb ps z=>⟨#[],by rw[ai (Q z),z];simp⟩) (λm hm=>?_) (λb o z=>?_) I.bare
   · grind
   · obtain⟨o,es,ep,L,r⟩:=hm;exact⟨o,es,ep,J _ o (Ne.symm e1) (Ne.symm f1) L,r⟩
   · by_cases A:b=s.heap.objs.size
     · rw[A,pF] at z;cases z;rw[A];exact⟨jk,[.int i s.toks,u],.cons ⟨_,U⟩ (.cons ru .nil),⟨_,Y,U,_,U⟩⟩
     · rw[ai A] at z;refine (I.hok b o z).stay (λc v g F=>?_) (λc F=>by rw[ai (Q F)];exact F) λc xs F=>by rw[ai (Q F)];exact F
       rcases g with rfl | g
       · exact J _ _ (ne z) (ni z) F
       · exact J _ _ (ne g) (ni g) F
  refine⟨.ref s.heap.objs.size,_,I2,U,⟨_,x,U,JJ,U,λys hy=>by rw[I.list_inj hy S];exact hx⟩,⟨⟨u,by simpa using JK⟩,?_⟩,λb A=>?_⟩
  · obtain⟨o,L,r⟩:=O;exact⟨o,(G.2 m (Ne.symm Il)).trans L,r⟩
  · have Kk:b<s.heap.objs.size:=by
     rcases List.mem_cons.mp A with q | q
     · rw[q];exact J0
     · have l:b=m:=by simpa using q
       rw[l];obtain⟨o,L,_⟩:=R;exact Heap.lt_size L
    rw[ai (Nat.ne_of_lt Kk)];exact (N b A).1
 done:=by
  intro X T hw hK g i D s σ H E I N B hg;subst T hw hK;obtain⟨xs,S,hx⟩:=hg;obtain⟨its,rv,p,hz⟩:=I.list S;obtain⟨⟨y,C⟩,R⟩:=B;obtain⟨W,f1,f2,f3,f4,f5⟩:=N m ?B;have hl:=rv.length;exact wpAny_pyNext_enum_end (I.ok.hd g) C R p.isList (by simp;lia) λh' eb=>⟨U,I.turned (t':=s.toks) (λb o A z=>eb b o A z) W f1 f3 f4 f5⟩
 self:=λ_ _ _ _ _ B h=>let ⟨_,C⟩:=B.1;wpAny_pyIter_enum C h
def F9 (K:Fg) (ta:TA):TI:=λσ H R=>ta σ H λvs H1=>∃ a xs,vs=[.ref a]/\SqL K H1 a xs/\R (Ite K a) H1
def lE:bootBuiltins "enumerate"=some (.type "enumerate"):=by left
section
variable {X:Cx}
def z9 {A:List Expr} {k} {i:Pos} {a:Expr} {o:TA} {p j:Pos} (B:Gl X "enumerate") (C:X.mg "enumerate"=none) (D:PA X [a] o) (E:starEach [a] X.env=[(false,eval a X.env)]:=by rfl):PI X (.Tuple A k i) (.Call (.Name "enumerate" p) [a] [] j) (F9 X.K o):=by
 intro c s t H R I h;refine Call_ (e8 I B C lE (PyProof.Rows.callWith_type1 (thn (D j c s t H _ I h) λY d f=>?_) E U));obtain⟨Z,u,n,F,G⟩:=f;obtain⟨l,xs,e,J,q⟩:=G;subst e;cases F with
 | cons r L =>
  cases L;cases r;obtain⟨M,rv,p,hz⟩:=n.list J;refine call_enumerate_list p.isList λN w O P Q=>?_;refine wpAny_pyIter_enum w ?_;have S:Inv X c t u {d with heap:=N}:=n.kept (t':=d.toks) Q;refine⟨d.heap.objs.size+1,[d.heap.objs.size+1,d.heap.objs.size],_,Ite X.K l,u,U,S,tX l _ _ (Nat.succ_ne_self _),⟨⟨_,by simpa using w⟩,O⟩,λb T=>?_,q⟩;have y:d.heap.objs.size<=b:=by
   rcases List.mem_cons.mp T with z | z
   · rw[z];exact Nat.le_succ _
   · have W:b=d.heap.objs.size:=by simpa using z
     rw[W];exact Nat.le_refl _
  exact n.fpOk y (n.hok.fresh y)
end
def aV.enum {K:Fg} {a:Addr} {xs:List V} {g:TG} {o:TS} {D:iK} {b:St} {H:Hp} (c:Nat->St->Hp->Prop) (s:c 0 b H) (j:∀ i b H,i<=xs.length->c i b H->SqL K H a xs)
 (u:∀ i x b H t,xs[i]?=some x->c i b H->H t=none->g (.ref t) b (upd H t (.tup [.int i,x])) λk w=>o {D with nx:=c (i+1),ct:=c (i+1),bk:=D.nx} k w) (y:∀ b H,c xs.length b H->D.nx b H):aV (Ite K a) g o D b H:=by
 refine⟨λi m b H=>i<=xs.length/\m=xs.length-i/\c i b H,⟨_,Nat.zero_le _,U,s⟩,λi m b H d=>?_⟩;obtain⟨p,F,f⟩:=d;by_cases l:i<xs.length
 · refine .inr ⟨⟨xs,xs[i],j i b H p f,by simp[l]⟩,λh n=>c (i+1) h n,λh n q=>⟨xs.length-(i+1),by lia,by lia,U,q⟩,?_⟩;rintro v n ⟨t,x,rfl,z,rfl,A⟩;exact u i x b H t (A xs (j i b H p f)) f z
 · have:i=xs.length:=by lia
   subst this;exact .inl ⟨⟨xs,j _ b H ?M f,Nat.le_refl _⟩,y b H f⟩
end L2
namespace K13
open PySem L2 PySem.Spec PyProof.Rows PySem.SeqAt
inductive PrI (H:Hp):List V->List (Int×Int)->Prop
  | nil:PrI H [] []
  | cons {t:Addr} {a b:Int} {ys:List V} {cs:List (Int×Int)} (h:H t=some (.tup [.int a,.int b])) (r:PrI H ys cs):PrI H (.ref t::ys) ((a,b)::cs)
def PrI.same (p:PrI H ys cs) (s:aA H H'):PrI H' ys cs:=by
 induction p with
 | nil=>exact .nil
 | cons h _ a=>exact .cons (s _ _ h) a
def PrI.len (p:PrI H ys cs):ys.length=cs.length:=by
 induction p with
 | nil=>rfl
 | cons h _ a=>rw[List.length_cons,List.length_cons,a]
def PrI.get {H:Hp} {ys:List V} {c:List (Int×Int)} (p:PrI H ys c):∀ {i:Nat} {y:V},ys[i]?=some y->∃ t a b,y=.ref t/\H t=some (.tup [.int a,.int b])/\c[i]?=some (a,b):=by
 induction p with
 | nil=>intro i y h;cases h
 | cons h _ e =>
  intro i y d;cases i with
  | zero=>cases d;exact⟨_,_,_,U,h,U⟩
  | succ i=>exact e d
def PrI.snoc (p:PrI H ys cs) (h:H t=some (.tup [.int a,.int b])):PrI H (ys++[.ref t]) (cs++[(a,b)]):=by
 induction p with
 | nil=>exact .cons h .nil
 | cons c _ d=>exact .cons c d
def Ed (cs:List (Int×Int)) (a b:Int):Prop:=(a,b)∈cs
def qD (b:∀ p∈cs,∃ m:Nat,p.2=((m:Nat):Int)/\m<60) (a:∃ m:Nat,x=((m:Nat):Int)/\m<60) (h:Rch (Ed cs) x j):∃ m:Nat,j=((m:Nat):Int)/\m<60:=by
 cases h with
 | refl=>exact a
 | step _ e=>exact b _ e
section
variable {P:Program} {w:World} {K:Fg} {d:SOV} {base:Heap}
abbrev sRn:Stmt:=top 16
abbrev nRn:List Str:=["calls","callees","caller","callee","table","reach","number"]
def Dy:aM nRn ["calls"] (ad sRn):=fsM
inductive AL (K:Fg) (vs:List V) (H:Hp) (Q:VK):Prop
  | mk (L:Addr) (ys:List V) (cs:List (Int×Int)) (h0:vs=[.ref L]) (h1:H L=some (.lst ys)) (h2:PrI H ys cs) (h3:cs.length<=900000) (h4:∀ p∈cs,∃ m:Nat,p.2=((m:Nat):Int)/\m<60)
    (q1:(∀ p∈cs,¬ Rch (Ed cs) p.2 p.1)->∀ H',aA H H'->Q .non H') (q2:∀ p∈cs,Rch (Ed cs) p.2 p.1->∀ k H',aA H H'->Q (.int k) H'):AL K vs H Q
def D7 (K:Fg):Sp:=λvs H Q _=>AL K vs H Q
def El (D:Def K d "ring_number" sRn) (T:Blt K d) (uW:Fn P w K d base "reached" 1 ["callees","start"] (D8 K)):Fn P w K d base "ring_number" 2 ["calls"] (D7 K):=by
 refine D.fn Dy ?P (λ_ _ _ _ _ _ us hl=>by obtain⟨a,rfl⟩:=dM hl;rfl) ?X
 · obtain⟨L,ys,r,rfl,_⟩:=h;rfl
 · obtain⟨L,ys,r,rfl,hL,hp,Io,hcb,q1,q2⟩:=h;have Y:=Dy.nd;have hu:=dN hr;ext d
   refine⟨_,(pE (pN (i:=1) Y U ?D fT)
 (pE (cu PassesOwn.never U (eC ?C) (cv U (aF (ax (i:=2) Y U ?D) (aF (ax (i:=3) Y U ?D) bI)))
 (pE (pN (i:=4) Y U ?D (wq ?E (pv 2) fT ⟨U,U,U,U⟩))
 (pH (dr hu (pv 4) (pv 3) bf U))))
 (pE (pN (i:=5) Y U ?D fT)
 (pE (cu PassesOwn.never U (z9 U T.enumerate (pA ?C pC)) (cv U (aF (ax (i:=6) Y U ?D) (aF (cv U (aF (ax (i:=2) Y U ?D) (aF (ax (i:=3) Y U ?D) bI))) bI)))
 (pE (aE (l0 (jv hu (pv 3) (pv 5))) (pH (dr hu (pv 5) (pv 3) (aB uW ?S U (pA ?E (pA (pv 3) pC))) U)) am)
 (pH (aE (l0 (wx hu (pv 2) (pM hu (pv 5) (pv 3) ?H))) (pH (ak (pv 6))) am))))
 (pH (ak qH)))))),?_⟩
   ext b;have ysl:=hp.len;refine ab λsw jB=>?_;refine λC hca=>?_;have k1:=smu (o:=HO.dK []) hca;have Z:(upd H C (.dK [])) C=some (.dK []):=pF;generalize upd H C (.dK [])=H1 at k1 Z ⊢;refine jB _ _ (ab λjP f9=>?_);refine⟨_,U,L,U,⟨ys,SqL.of (k1 _ _ hL)⟩,?_⟩;show aV _ _ _ _ _ _;have cd1:CaD (λx=>∃ u,H x=some u) H1 C (Ed (r.take 0)) 0:=⟨[],Z,Nat.le_refl _,λf v e=>(by cases e),λf _ j z=>(by cases z),λf f' l e _=>(by cases e)⟩;refine aV.by (bR (xs:=ys)) (λi M f=>aA H f/\CaD (λx=>∃ u,H x=some u) f C (Ed (r.take i)) i/\∃ x2 x3 x4,M=[some (.ref L),some (.ref C),x2,x3,x4,none,none]) ⟨k1,cd1,_,_,_,U⟩ (λi M f _ h=>SqL.of (h.1 _ _ hL)) ?_ ?_
   · rintro i y M f hy ⟨G,N,x2,x3,x4,rfl⟩;obtain⟨t,a,b,rfl,ht,Ip⟩:=hp.get hy;have hi:=(gES.mp Ip).1;refine⟨t,_,U,SqT.of (G _ _ ht),U,_,_,U,_,_,U,U,?_⟩;refine ab λsv jj=>?_;obtain⟨kvs,d1,_⟩:=N.ex;refine⟨_,U,C,U,.inl ⟨kvs,.inl d1⟩,_,U,λp g=>?_⟩;have hpH:H p=none:=kH G g;refine N.add (j:=b) ?A g (λ⟨u,z⟩=>by rw[hpH] at z;cases z) λl ls H2 hl ll z=>?_;obtain⟨lc,lav,keep,c2⟩:=z;have hlH:H l=none:=by cases e:H l with
      | none=>rfl
      | some u=>exact absurd ⟨u,e⟩ lav
     refine jj _ _ ?_;refine⟨_,U,_,U,l,_,U,gY.k (k:=.inl b) hl (by rw[kR];omega),?_⟩;rw[vL];refine⟨λc u hc=>?_,c2.iff λf' j'=>?_,_,_,_,U⟩
     · rw[ai (aD hc hlH)];exact keep c u (G _ _ hc) (aD hc hca)
     · unfold Ed;rw[tAO,Ip,Option.toList_some,mAp,mSg,Prod.mk.injEq]
   rintro M f ⟨G,N,x2,x3,x4,rfl⟩;rw[ysl,List.take_length] at N;ext q;refine λn JG=>?_;have k3:=smu (o:=HO.dK []) JG;have hra3:(upd f n (.dK [])) n=some (.dK []):=pF;obtain⟨kvsC,hcaC,_⟩:=N.ex;have car:C≠n:=aD hcaC JG;have raH:=kH G JG;have ci3:=(N.av JG).same k3;have s3:=G.trans k3;generalize upd f n (.dK [])=H3 at k3 hra3 ci3 s3 ⊢;refine fC _ _ (ab λmy gH=>?_);refine⟨_,U,L,ys,U,SqL.of (s3 _ _ hL),?_⟩;show aV _ _ _ _ _ _;refine aV.enum (xs:=ys) (λi M f=>aA H f/\CaD (λx=>(∃ u,H x=some u)\/x=n) f C (Ed r) r.length/\(∃ O,f n=some (.dK O)/\O.length<=i/\∀ x v,bd O (.inl x)=some v->∃ a B,v=.ref a/\a≠n/\f a=some (.dK (sd B))/\∀ i,i∈B↔Rch (Ed r) x i)/\(∀ k p,k<i->r[k]?=some p->¬ Rch (Ed r) p.2 p.1)/\∃ x2 x3 x4 x6,M=[some (.ref L),some (.ref C),x2,x3,x4,some (.ref n),x6])
    ⟨s3,ci3,⟨[],hra3,Nat.le_refl _,λx v e=>(by cases e)⟩,λk p R=>absurd R (Nat.not_lt_zero _),_,_,_,_,U⟩ (λi M f _ h=>SqL.of (h.1 _ _ hL)) ?_ ?_
   · rintro i y M f t hy ⟨G,N,⟨O,hrai,kvl,kvv⟩,J5,x2,x3,x4,x6,rfl⟩ ht;obtain⟨t1,a,b,rfl,Ie,Ip⟩:=hp.get hy;have hi:=(gES.mp Ip).1;have Iw:(a,b)∈r:=mGE Ip;have kt:=smu (o:=HO.tup [V.int ?J,V.ref t1]) ht;refine⟨t,_,U,SqT.of pF,U,_,_,U,_,_,U,t1,_,U,SqT.of (kt _ _ (G _ _ Ie)),U,_,_,U,_,_,U,U,U,?_⟩;have s5:=G.trans kt;have S:=N.same kt;have q:=kt _ _ hrai;have I:∀ x v,bd O (.inl x)=some v->∃ a B,v=.ref a/\a≠n/\(upd f t (.tup [V.int ?J,V.ref t1])) a=some (.dK (sd B))/\∀ i,i∈B↔Rch (Ed r) x i:=λx v e=>by
      obtain⟨a,B,e1,e2,e3,e4⟩:=kvv x v e;exact⟨a,B,e1,e2,kt _ _ e3,e4⟩
     generalize upd f t (.tup [V.int ?J,V.ref t1])=H5 at s5 S q I ⊢;refine ab λyn mD=>?_;have join:∀ (H6:Hp) (F:List (Key×V)),aA H H6->CaD (λx=>(∃ u,H x=some u)\/x=n) H6 C (Ed r) r.length->H6 n=some (.dK F)->F.length<=i+1->(∀ x v,bd F (.inl x)=some v->∃ a B,v=.ref a/\a≠n/\H6 a=some (.dK (sd B))/\∀ i,i∈B↔Rch (Ed r) x i)->(∃ v,bd F (.inl b)=some v)->yn [some (.ref L),some (.ref C),some (.int a),some (.int b),x4,some (.ref n),some (.int ?J)] H6:=by
      intro H6 F s6 c6 hra6 l6 v6 J;refine mD _ _ ?_;obtain⟨v,J⟩:=J;obtain⟨e,B,rfl,ne,he,W⟩:=v6 _ _ J;refine⟨_,U,_,U,_,U,n,_,U,by have:=dC.k (k:=.inl b) hra6;rw[J] at this;exact this,e,_,U,dC.k (k:=.inl a) he,_,U,?_⟩;rw[np];by_cases R:a∈B
      · rw[if_pos R];exact pK ?G ⟨_,U,q2 (a,b) Iw ((W a).mp R) _ H6 s6⟩
      · rw[if_neg R];refine pJ ?G ⟨s6,c6,⟨F,hra6,l6,v6⟩,λk p hk' g=>?_,_,_,_,_,U⟩;by_cases e:k=i
        · rw[e,Ip] at g;cases g;exact λz=>R ((W a).mpr z)
        · exact J5 k p ?A g
     refine⟨_,U,_,U,n,_,U,dC.k (k:=.inl b) q,_,U,?_⟩;cases e:bd O (.inl b:Key) with
     | some v=>exact pJ (by show ¬ ((!true)=true);decide) (join H5 O s5 S q ?A I ⟨v,e⟩)
     | none =>
      refine pK ?G ?_;refine⟨_,U,_,U,C,b,Ed r,r.length,U,S.less (λx z=>z.elim),by omega,λj hj=>qD hcb (hcb (a,b) Iw) hj,λm H6 B s6 hm5 hm6 W=>?_⟩;have mr:m≠n:=Ne.symm (aD q hm5);refine⟨_,U,_,U,n,_,U,gY.k (k:=.inl b) (s6 _ _ q) ?A,?_⟩;refine join _ (cr O (.inl b) (.ref m)) (aK (s5.trans s6) raH) ((S.same s6).put (.inr U) (Ne.symm car)) pF (by have:=bS O (.inl b:Key) (.ref m);omega) (λx v J=>?_) ⟨.ref m,by rw[dh,if_pos U]⟩;rw[dh] at J;by_cases ex:x=b
      · rw[if_pos (by rw[ex])] at J;cases J;exact⟨m,B,U,mr,by rw[ai mr];exact hm6,by rw[ex];exact W⟩
      · rw[if_neg (λz=>ex (Sum.inl.inj z))] at J;obtain⟨a',ks',e1,e2,e3,e4⟩:=I x v J;exact⟨a',ks',e1,e2,by rw[ai e2];exact s6 _ _ e3,e4⟩
   · rintro M f ⟨G,N,_,J5,x2,x3,x4,x6,rfl⟩;refine gH _ _ (q1 (λp g=>?_) f G);obtain⟨k,R⟩:=List.getElem?_of_mem g;exact J5 k p (by rw[ysl];exact (gES.mp R).1) R
end
def bm (l:PDs):List Int:=l.flatMap eV
def gF (f:PyData):PyData:=p1 f
def Pl (fs:PDs) (a b:Int):Prop:=∃ (i:Nat) (f g:PyData),fs[i]?=some f/\a=?J/\bu f="function"/\b∈bm (cU 40 (gF f))/\plc fs b=some g/\bu g="function"
def tJ (fs:PDs) (d:PyData):Prop:=∀ b∈bm (cU 40 d),(plc fs b).isSome=true
def uQ (h:bu x≠"call"):eV x=[]:=if_neg h
def xP (h:bu x="call"):eV x=[aY (p0 x)]:=if_pos h
def jH (l:PDs):(bm l).length<=l.length:=by
 induction l with
 | nil=>exact Nat.le_refl _
 | cons x r a =>
  unfold bm at a ⊢;rw[List.flatMap_cons,lAp,List.length_cons];have:(eV x).length<=1:=by unfold eV;split <;> simp
  omega
def r9 {l:PDs} (h:l[i]?=some x):bm (l.take (i+1))=bm (l.take i)++eV x:=by
 unfold bm;rw[tAO,h,List.flatMap_append];simp
def we:∀ {f:Nat} {d x:PyData},WFx f d->x∈cU f d->cB x=true:=by
 intro f
 induction f with
 | zero=>intro d x h _;exact h.elim
 | succ f e =>
  intro d x h a
  ext e
  · exact h.1
  · obtain⟨y,c,b⟩:=List.mem_flatMap.mp a;exact e (h.2 y c) b
def GJ:(["node","caller"]:List Str).Nodup:=by left
def F2:(["caller","callee","functions"]:List Str).Nodup:=by left
def PrI.app (p:PrI H ys cs) (q:PrI H zs ds):PrI H (ys++zs) (cs++ds):=by
 induction p with
 | nil=>exact q
 | cons h _ a=>exact .cons h a
section
variable {P:Program} {w:World} {K:Fg} {M:SOV} {base:Heap}
abbrev sPc:Stmt:=top 40
abbrev nPc:List Str:=["functions","calls","caller","head","count","body"]
def DF:aM nPc ["functions"] (ad sPc):=fsM
inductive AR (K:Fg) (vs:List V) (H:Hp) (Q:VK):Prop
  | mk (vf:V) (fs:PDs) (h0:vs=[vf]) (h1:BD K H vf (.tuple fs)) (h2:∀ f∈fs,fO f=true) (h3:∀ f∈fs,WFx 40 (gF f)/\tJ fs (gF f)) (h4:wts fs<=90000)
    (q:∀ L H' ys cs,aA H H'->H' L=some (.lst ys)->PrI H' ys cs->cs.length<=90000->(∀ a b,(a,b)∈cs↔Pl fs a b)->Q (.ref L) H'):AR K vs H Q
def Dc (K:Fg):Sp:=λvs H Q _=>AR K vs H Q
def Eu (D:Def K M "plain_calls" sPc) (T:Blt K M) (yg:Fn P w K M base "walked" 2 ["e"] (D3 K)):Fn P w K M base "plain_calls" 3 ["functions"] (Dc K):=by
 refine D.fn DF ?P (λ_ _ _ _ _ _ l hl=>by obtain⟨a,rfl⟩:=dM hl;rfl) ?X
 · obtain⟨vf,fs,rfl,_⟩:=h;rfl
 · obtain⟨vf,fs,rfl,hv,JU,Kk,J7,q⟩:=h;have nd:=DF.nd;ext c
   refine⟨_,(pE (pN (i:=1) nd U ?D (bb pC))
 (pE (cu PassesOwn.never U (l7 U T.enumerate (pA ?C pC)) (cv U (aF (ax (i:=2) nd U (Or.inr U)) (aF (cv U (aF (ax (i:=3) nd U ?D) (aF (ax (i:=4) nd U ?D) (aF (ax (i:=5) nd U ?D) bI)))) bI)))
 (pH (aE (pP aZ (pv 3) pD (pQ _)) (pH (cY (y9 ?E (pA (cO (own:=["node"]) (outs:=[(2,"caller")]) (tc:=dA (tOp rEq (tOp (fN K) (cw 0) (tC (.int 0))) (tC (.str "call")))) (te:=yC (gE (cw 1) (gE (tOp (fN K) (cw 0) (tC (.int 1))) lJ))) U (aG.of (ad sPc) nPc) (eC (aB yg ?S U (pA (pv 5) pC))) (λ_ _ _ _=>⟨(ax (i:=0) GJ U ?D),(bM (pP aZ ?I pD (pQ _))),(aN (pA ?E (pA ?I pC)))⟩)) pC)))) am)))
 (pH (ak (cO (own:=["caller","callee"]) (outs:=[(0,"functions")]) (g:=ph K 2 (fD (cP 0) (fD (cP 1) pi))) (tc:=dA (tOp rEq (tOp (fN K) (tOp (fN K) (cw 2) (cw 1)) (tC (.int 0))) (tC (.str "function")))) U (aG.of (ad sPc) nPc) (eC ?E) (λ_ _ _ _=>⟨(cv (n:=2) U (aF (ax (i:=0) F2 U ?D (Or.inr U)) (aF (ax (i:=1) F2 U ?D (Or.inr U)) bI))),(bM (pP aZ (aj ae (aj ae (pv 2) ?E ?H) pG ?H) pD (pQ _))),(aN (pA ?C (pA ?E pC)))⟩)))))),?_⟩
   ext b;obtain⟨a,xs,rfl,ha,hx⟩:=hv.tup_of;have hxl:=hx.length;refine ab λsw jB=>?_;refine⟨jl,λC hC=>?_⟩;have k1:=smu (o:=HO.lst []) hC;have hC1:(upd H C (.lst [])) C=some (.lst []):=pF;generalize upd H C (.lst [])=H1 at k1 hC1 ⊢;refine jB _ _ (ab λjP f9=>?_);refine⟨_,U,a,xs,U,k1.seqT ha,?_⟩;show aV _ _ _ _ _ _;refine aV.enumT (xs:=xs) (λi O Hi=>aA H Hi/\(∃ ys cs,Hi C=some (.lst ys)/\PrI Hi ys cs/\cs.length<=wts (fs.take i)/\(∀ a b,(a,b)∈cs↔∃ (k:Nat) (f:PyData),k<i/\fs[k]?=some f/\a=((k:Nat):Int)/\bu f="function"/\b∈bm (cU 40 (gF f))))/\∃ x2 x3 x4 x5,O=[some (.ref a),some (.ref C),x2,x3,x4,x5])
    ⟨k1,⟨[],[],hC1,.nil,Nat.zero_le _,λa b=>⟨λz=>(by cases z),λ⟨k,f,z,_⟩=>absurd z (Nat.not_lt_zero _)⟩⟩,_,_,_,_,U⟩ (λi O Hi _ h=>h.1.seqT ha) ?_ ?_
   · rintro i x O Hi t Ih ⟨si,⟨ys,cs,Kf,Kc,Io,F⟩,x2,x3,x4,x5,rfl⟩ ht;obtain⟨fd,IT,tf⟩:=hx.get Ih;have hi:=(gES.mp IT).1;have hfm:=mGE IT;obtain⟨hh,c,b,rfl,_⟩:=eI (JU fd hfm);obtain⟨ta,y1,y2,vb,rfl,JV,t1,t2,tb⟩:=gD tf;obtain rfl:=t1.str_of;obtain rfl:=t2.int_of;have kt:=smu (o:=HO.tup [V.int ?J,V.ref ta]) ht;have s3:=si.trans kt;refine⟨t,_,U,SqT.of pF,U,_,_,U,_,_,U,ta,_,U,s3.seqT JV,U,_,_,U,_,_,U,_,_,U,U,U,?_⟩;have hC3:=kt _ _ Kf;have S:=Kc.same kt;generalize upd Hi t (.tup [V.int ?J,V.ref ta])=H3 at s3 hC3 S ⊢;have ewts:wts (fs.take (i+1))=wts (fs.take i)+wt (.tuple [.str hh,.int c,b]):=by
      rw[tAO,IT,cx,Option.toList_some,wts,wts];omega
     have hwle:wts (fs.take (i+1))<=90000:=by
      have:=cx (fs.take (i+1)) (fs.drop (i+1));rw[List.take_append_drop] at this;omega
     have hwb:wt b+2<=wt (.tuple [.str hh,.int c,b]):=by
      rw[aC,wts,wts,wts,wts];have:=fo (.str hh);have:=fo (.int c);omega
     obtain⟨wf,cok⟩:=Kk _ hfm;replace wf:WFx 40 b:=wf;have split:∀ R I:Int,(∃ (k:Nat) (f:PyData),k<i+1/\fs[k]?=some f/\R=((k:Nat):Int)/\bu f="function"/\I∈bm (cU 40 (gF f)))↔((∃ (k:Nat) (f:PyData),k<i/\fs[k]?=some f/\R=((k:Nat):Int)/\bu f="function"/\I∈bm (cU 40 (gF f)))\/(R=?J/\hh="function"/\I∈bm (cU 40 b))):=λa' I=>by
      constructor
      · rintro⟨k,f,J,r,z3,z4,z5⟩;by_cases e:k=i
        · subst e;rw[IT] at r;cases r;exact .inr ⟨z3,z4,z5⟩
        · exact .inl ⟨k,f,by omega,r,z3,z4,z5⟩
      · rintro (⟨k,f,J,r⟩ | ⟨J,r,z3⟩)
        · exact⟨k,f,by omega,r⟩
        · exact⟨i,_,by omega,IT,J,r,z3⟩
     refine ?T;by_cases hfn:hh="function"
     case neg =>
      refine pJ (by simpa using hfn) ⟨s3,⟨ys,cs,hC3,S,by omega,λa' I=>?_⟩,_,_,_,_,U⟩;rw[split,F];exact⟨.inl,λz=>z.elim id λy=>absurd y.2.1 hfn⟩
     refine pK (by simp[hfn]) ?_;rw[yT,DW];refine⟨_,U,.inl ⟨U,_,SqL.of hC3⟩,?_⟩;rw[dq,bU];refine⟨_,U,vb,b,40,U,tb.same s3,wf,by omega,λL H4 zs s4 hL hz tz=>⟨L,U,⟨zs,SqL.of hz⟩,λG hG=>?_⟩⟩;have s34:=s3.trans s4;have hC4:=s4 _ _ hC3;have hpr4:=S.same s4;have k0:=smu (o:=HO.lst []) hG;have zl:=tz.length;have hpl:=nA wf;refine bj.by (bR (xs:=zs)) (λj O m=>aA H4 m/\(∃ l,m G=some (.lst l)/\PrI m l ((bm ((cU 40 b).take j)).map λc=>(?J,c)))/\∃ y,O=[y,some (.int ?J)]) ⟨k0,⟨[],pF,.nil⟩,_,U⟩ (λj O m _ z=>SqL.of (z.1 _ _ hz)) ?_ ?_
     · rintro j u O m huj ⟨N,⟨l,Id,d⟩,y,rfl⟩;obtain⟨x',hxj,tx'⟩:=tz.get huj;have hj:=(gES.mp hxj).1;have hex:=we wf (mGE hxj);obtain⟨hd,sl,ps,rfl,hm',HZ,hpl',hsl⟩:=eU hex;obtain⟨au,xu,rfl,hau,hxu⟩:=sL (tx'.same N);have hsn:=r9 hxj;rw[aL];refine⟨_,U,au,_,0,_,U,U,hau,pI (j:=0) U,U,_,U,?_⟩;by_cases hc:hd="call"
       · refine pK (by simp[hc]) ?_;subst hc;obtain rfl:=jN HZ (show lkT tbl ("call":Str)=some (["place","many"]:List Str) by left);obtain⟨p,p2,rfl⟩:=f8 hpl';obtain⟨c',rfl⟩:=cV (show isW p=true from hsl 0 "place" p rfl rfl);cases hxu with
         | cons t1 hxu =>
         rw[t1.int_of] at hau;rw[xP U] at hsn;refine⟨_,U,_,U,au,_,1,_,U,U,hau,pI (j:=1) U,jk,λq' hq'=>?_⟩;have k5:=smu (o:=HO.tup [V.int ?J,V.int c']) hq';have Y:(upd m q' (.tup [V.int ?J,V.int c'])) q'=some (.tup [V.int ?J,V.int c']):=pF;generalize upd m q' (.tup [V.int ?J,V.int c'])=H5 at k5 Y ⊢;have Z:=k5 _ _ Id;have hul:=d.len;rw[lMp] at hul;have h6:=jH ((cU 40 b).take j);rw[lTk] at h6;have sp:∀ c u,H5 c=some u->c≠G->(upd H5 G (.lst (l++[V.ref q']))) c=some u:=λc u hc hn=>by rw[ai hn];exact hc
         have hpp:PrI (upd H5 G (.lst (l++[V.ref q']))) (l++[V.ref q']) ((bm ((cU 40 b).take (j+1))).map λc=>(?J,c)):=by
          rw[hsn,List.map_append];have hk:∀ {B:List V} {v:List (Int×Int)},PrI H5 B v->PrI (upd H5 G (.lst (l++[V.ref q']))) B v:=λh=>by
           induction h with
           | nil=>exact .nil
           | cons h _ ih=>exact .cons (sp _ _ h λe=>by rw[e,Z] at h;cases h) ih
          exact hk ((d.same k5).snoc Y)
         exact⟨l,Z,by omega,aK (N.trans k5) hG,⟨_,pF,hpp⟩,_,U⟩
       · rw[uQ (show bu (.tuple (.str hd::ps))≠"call" from hc),List.append_nil] at hsn;exact pJ (by simpa using hc) ⟨N,⟨l,Id,by rw[hsn];exact d⟩,_,U⟩
     · rintro O m ⟨N,⟨l,Id,d⟩,y,rfl⟩;rw[zl,List.take_length] at d;have hCj:=N _ _ hC4;have hprj:=hpr4.same N;have hul:=d.len;rw[lMp] at hul;have h6:=jH (cU 40 b);have hyl:=hprj.len;have CG:C≠G:=aD hC4 hG;refine⟨C,G,ys,l,U,U,hCj,Id,by omega,aK (s34.trans N) hC,⟨_,cs++(bm (cU 40 b)).map λc=>(?J,c),pF,?_,?_,λa' I=>?_⟩,_,_,_,_,U⟩
       · have hk:∀ {B:List V} {v:List (Int×Int)},PrI m B v->PrI (upd m C (.lst (ys++l))) B v:=λh=>by
          induction h with
          | nil=>exact .nil
          | cons h _ ih=>exact .cons (by rw[ai λe=>by rw[e,hCj] at h;cases h];exact h) ih
         exact (hk hprj).app (hk d)
       · rw[lAp,lMp];omega
       · rw[split,mAp,F];refine or_congr Iff.rfl ?_;rw[List.mem_map];constructor
         · rintro⟨c',J,r⟩;cases r;exact⟨U,hfn,J⟩
         · rintro⟨J,_,r⟩;exact⟨I,r,by rw[J]⟩
   · rintro O Hi ⟨si,⟨ys,cs,Kf,Kc,Io,F⟩,x2,x3,x4,x5,rfl⟩;rw[hxl,List.take_length] at Io;refine f9 _ _ ?_;rw[gr,bU];refine⟨_,U,C,U,⟨ys,SqL.of Kf⟩,λG hG=>?_⟩;have k0:=smu (o:=HO.lst []) hG;have hyl:=Kc.len;refine bj.by (bR (xs:=ys)) (λj O m=>aA Hi m/\(∃ l ds,m G=some (.lst l)/\PrI m l ds/\ds.length<=j/\∀ a b,(a,b)∈ds↔(a,b)∈cs.take j/\∃ g,plc fs b=some g/\bu g="function")/\∃ y z,O=[y,z,some (.ref a)]) ⟨k0,⟨[],[],pF,.nil,Nat.le_refl _,λa b=>⟨λz=>(by cases z),λz=>(by cases z.1)⟩⟩,_,_,U⟩ (λj O m _ z=>SqL.of (z.1 _ _ Kf)) ?_ ?_
     · rintro j u O m huj ⟨N,⟨l,ds,Id,d,Jh,W⟩,y,z,rfl⟩;obtain⟨t,R,I,rfl,ht,Ip⟩:=Kc.get huj;have hj:=(gES.mp Ip).1;refine⟨t,_,U,SqT.of (N _ _ ht),U,_,_,U,_,_,U,U,?_⟩;obtain⟨k,fd,hk1,Ig,hk3,hk4,hk5⟩:=(F R I).mp (mGE Ip);obtain⟨g,hg⟩:=Option.isSome_iff_exists.mp ((Kk fd (mGE Ig)).2 I hk5);obtain⟨xg,hxg,tg⟩:=hx.plc hg;obtain⟨jg,_,hjg⟩:=dW hg;obtain⟨gh,gc,gb,rfl,_⟩:=eI (JU g (mGE hjg));obtain⟨ag,xu,rfl,hag,hxu⟩:=sL tg;have sij:=si.trans N;have tk:∀ a1 b1:Int,(a1,b1)∈cs.take (j+1)↔(a1,b1)∈cs.take j\/(a1=R/\b1=I):=λa1 b1=>by
        rw[tAO,Ip,Option.toList_some,mAp,mSg,Prod.mk.injEq]
       refine⟨_,U,_,U,a,xs,I,_,U,U,sij.seqT ha,hxg,ag,_,0,_,U,U,sij.seqT hag,pI (j:=0) U,U,_,U,?_⟩;by_cases hgf:gh="function"
       · refine pK (by simp[hgf]) ⟨_,U,_,U,jk,λq' hq'=>?_⟩;have k5:=smu (o:=HO.tup [V.int R,V.int I]) hq';have Y:(upd m q' (.tup [V.int R,V.int I])) q'=some (.tup [V.int R,V.int I]):=pF;generalize upd m q' (.tup [V.int R,V.int I])=H5 at k5 Y ⊢;have Z:=k5 _ _ Id;have hul:=d.len;have hpp:PrI (upd H5 G (.lst (l++[V.ref q']))) (l++[V.ref q']) (ds++[(R,I)]):=by
          have hk:∀ {B:List V} {v:List (Int×Int)},PrI H5 B v->PrI (upd H5 G (.lst (l++[V.ref q']))) B v:=λh=>by
           induction h with
           | nil=>exact .nil
           | cons h _ ih=>exact .cons (by rw[ai λe=>by rw[e,Z] at h;cases h];exact h) ih
          exact hk ((d.same k5).snoc Y)
         refine⟨l,Z,by omega,aK (N.trans k5) hG,⟨_,_,pF,hpp,by rw[lAp];show _+1<=_;omega,λa1 b1=>?_⟩,_,_,U⟩;rw[mAp,W,tk,mSg,Prod.mk.injEq];constructor
         · rintro (⟨J,r⟩ | ⟨rfl,rfl⟩)
           · exact⟨.inl J,r⟩
           · exact⟨.inr ⟨U,U⟩,_,hg,hgf⟩
         · rintro⟨J | J,r⟩
           · exact .inl ⟨J,r⟩
           · exact .inr J
       · refine pJ (by simpa using hgf) ⟨N,⟨l,ds,Id,d,by omega,λa1 b1=>?_⟩,_,_,U⟩;rw[W,tk];constructor
         · exact λz=>⟨.inl z.1,z.2⟩
         · rintro⟨J | ⟨rfl,rfl⟩,r⟩
           · exact⟨J,r⟩
           · obtain⟨g',hg',hgf'⟩:=r;rw[hg] at hg';cases hg';exact absurd hgf' hgf
     · rintro O m ⟨N,⟨l,ds,Id,d,Jh,W⟩,y,z,rfl⟩;rw[hyl,List.take_length] at W;refine q G m l ds (si.trans N) Id d ?A λa1 b1=>?_;rw[W,F];constructor
       · rintro⟨⟨k,fd,h1,h2,h3,h4,h5⟩,g,h6,h7⟩;exact⟨k,fd,g,h2,h3,h4,h5,h6,h7⟩
       · rintro⟨k,fd,g,h2,h3,h4,h5,h6,h7⟩;exact⟨⟨k,fd,by rw[hxl];exact (gES.mp h2).1,h2,h3,h4,h5⟩,g,h6,h7⟩
end
def nZ {g:Kn->Nat->Wk->PyData->Option Wk} {kn kn':Kn} {n n':Nat}:∀ {ks:PDs} {w w':Wk},fY g kn n kn' n' ks w=some w'->∀ x∈ks,∃ kn n w w',g kn n w x=some w'
 | [],w,w',_,x,hx=>by cases hx
 | [y],w,w',h,x,hx=>by rw[mSg.mp hx];exact⟨_,_,_,_,h⟩
 | y::z::r,w,w',h,x,hx=>by
  obtain⟨w2,a,b⟩:=Option.bind_eq_some_iff.mp (show (g kn n w y).bind (fY g kn n kn' n' (z::r))=some w' from h)
  rcases List.mem_cons.mp hx with rfl | hx
  · exact⟨_,_,_,_,a⟩
  · exact nZ b x hx
def j6 (h:fit C (f+1) kn n w d=some w'):eP C kn n w.1 d=true/\fY (fit C f) kn n (lQ d kn n) (iZ d n) (bw d) (nxt w d)=some w':=by
 rw[fit] at h;split at h
 · exact⟨by assumption,h⟩
 · cases h
def iw (h:eP C kn n fr d=true):cB d=true/\gy C kn n d=true/\(cZ d).map aY=rgI fr (cZ d).length:=by
 unfold eP at h;rw[Bool.and_eq_true,Bool.and_eq_true] at h;exact⟨h.1.1,h.1.2,of_decide_eq_true h.2⟩
def xc:∀ {f:Nat} {kn:Kn} {n:Nat} {w a:Wk} {d:PyData},fit C f kn n w d=some a->WFx f d:=by
 intro f
 induction f with
 | zero=>intro kn n w a d h;cases h
 | succ f g =>
  intro kn n w a d h;obtain⟨i,c⟩:=j6 h;refine⟨(iw i).1,λx b=>?_⟩;obtain⟨_,_,_,_,e⟩:=nZ c x b;exact g e
def rh (h:gy C kn n d=true) (a:bu d="call"):(plc C.F (aY (p0 d))).isSome=true:=by
 unfold gy at h;rw[a,if_neg ?G,if_neg ?G,if_neg ?G,if_neg ?G,if_neg ?G,if_neg ?G,if_pos U] at h;cases e:plc C.F (aY (p0 d)) with
 | none=>rw[e] at h;cases h
 | some _=>rfl
def jQ:∀ {f:Nat} {kn:Kn} {n:Nat} {w e:Wk} {d:PyData},fit C f kn n w d=some e->∀ b∈bm (cU f d),(plc C.F b).isSome=true:=by
 intro f
 induction f with
 | zero=>intro kn n w e d h;cases h
 | succ f m =>
  intro kn n w e d h b i;obtain⟨p,j⟩:=j6 h;obtain⟨x,c,a⟩:=List.mem_flatMap.mp i
  rcases List.mem_cons.mp c with rfl | c
  · unfold eV at a;split at a
    · rename_i l
      rw[mSg.mp a];exact rh (iw p).2.1 l
    · cases a
  · obtain⟨y,o,g⟩:=List.mem_flatMap.mp c;obtain⟨_,_,_,_,k⟩:=nZ j y o;exact m k b (List.mem_flatMap.mpr ⟨x,g,a⟩)
def uM (a b:PDs):bm (a++b)=bm a++bm b:=List.flatMap_append
def mJ:∀ {f:Nat} {kn:Kn} {n:Nat} {w c:Wk} {d:PyData},fit C f kn n w d=some c->c.2=w.2++bm (cU f d):=by
 intro f
 induction f with
 | zero=>intro kn n w c d h;cases h
 | succ f j =>
  have k:∀ {g:PDs} {kn e:Kn} {n i:Nat} {w c:Wk},fY (fit C f) kn n e i g w=some c->c.2=w.2++bm (g.flatMap (cU f)):=by
   intro g kn e n i
   induction g with
   | nil=>intro w c h;cases h;simp[bm]
   | cons x l o =>
    intro w c h;cases l with
    | nil =>
     rw[List.flatMap_cons,List.flatMap_nil,List.append_nil];exact j h
    | cons y l =>
     obtain⟨p,a,b⟩:=Option.bind_eq_some_iff.mp (show (fit C f kn n w x).bind (fY (fit C f) kn n e i (y::l))=some c from h);rw[o b,j a,List.flatMap_cons (x:=x),uM,List.append_assoc]
  intro kn n w c d h;obtain⟨_,m⟩:=j6 h;rw[k m];show w.2++eV d++_=w.2++bm (d::(bw d).flatMap (cU f));unfold bm;rw[List.flatMap_cons,List.append_assoc]
def eL (fs rs:PDs) (f:PyData):Bool:=(fit (aX fs rs) 40 (kn0 (nrD f)) 0 (nrD f,[]) (gF f)).isSome
structure yj (d:PyData):Prop where
  ex:∃ fs rs os,d=.tuple [.tuple fs,.tuple rs,.tuple os]/\gA fs rs os/\(∀ f∈fs,eL fs rs f=true)/\∀ a b,Pl fs a b->¬ Rch (Pl fs) b a
def rT (h:∀ a b,R a b↔R' a b):Rch R x y↔Rch R' x y:=by
 constructor
 · intro r
   induction r with
   | refl=>exact .refl
   | step _ e c=>exact .step c ((h _ _).mp e)
 · intro r
   induction r with
   | refl=>exact .refl
   | step _ e c=>exact .step c ((h _ _).mpr e)
section
variable {P:Program} {w:World} {K:Fg} {mg:SOV} {base:Heap}
abbrev sRc:Stmt:=top 41
abbrev nRc:List Str:=["thing","functions","records","opens","function"]
def DA:aM nRc ["thing"] (ad sRc):=fsM
inductive AN (K:Fg) (vs:List V) (H:Hp) (Q:VK):Prop
  | mk (v:V) (d:PyData) (h0:vs=[v]) (h1:BD K H v d) (h2:wt d<=90000) (h3:dp d<=40) (h4:∀ a b os,d=.tuple [a,b,.tuple os]->os.length<60)
    (q:∀ b H',aA H H'->(b=true↔yj d)->Q (.bl b) H'):AN K vs H Q
def yL (K:Fg):Sp:=λvs H Q _=>AN K vs H Q
def Eo (D:Def K mg "right_core" sRc) (rC:Fn P w K mg base "is_frame" 4 ["thing"] (yN K)) (ko:Fn P w K mg base "is_right_body" 5 ["function","functions","records"] (D9 K)) (lY:Fn P w K mg base "plain_calls" 3 ["functions"] (Dc K)) (lX:Fn P w K mg base "ring_number" 2 ["calls"] (D7 K)):Fn P w K mg base "right_core" 6 ["thing"] (yL K):=by
 refine D.fn DA ?P (λ_ _ _ _ _ _ us hl=>by obtain⟨a,rfl⟩:=dM hl;rfl) ?X
 · ext j
 · obtain⟨v,d,rfl,td,J7,IM,ho,q⟩:=h;have W:=DA.nd;refine⟨_,(pE (aE (aU (aQ (aB rC ?S U (pA ?C pC)))) ?O am)
 (pE (gL ?C (cv U (aF (ax (i:=1) W U ?D) (aF (ax (i:=2) W U ?D) (aF (ax (i:=3) W U ?D) bI)))))
 (pE (cu PassesOwn.never U (cI ?E) (ax (i:=4) W U ?D)
 (pH (aE (aU (aQ (aB ko ?S U (pA (pv 4) (pA ?E (pA (pv 2) pC)))))) ?O am)))
 (pH (ak (bL BK (aB lX ?S U (pA (aB lY ?S U (pA ?E pC)) pC)) qH (pQ _))))))),?_⟩
   refine ab λsw jB=>?_;refine⟨_,U,v,d,U,td,by omega,ho,λb H1 I T=>⟨_,U,?_⟩⟩;cases b with
   | false =>
    refine aJ (q false H1 I ⟨λz=>(by cases z),λz=>?_⟩);obtain⟨r,l,Z,e,n,_⟩:=z.ex;exact T.mpr ⟨r,l,Z,e,n⟩
   | true =>
   obtain⟨r,l,Z,rfl,n⟩:=T.mp rfl;refine aP (jB _ _ (ab λjP f9=>?_));obtain⟨a,x,y,z,rfl,ha,hx,hy,hz⟩:=gD td;refine⟨_,U,a,_,U,I.seqT ha,U,_,_,U,_,_,U,_,_,U,U,?_⟩;ext q;have hx1:=hx.same I;have hy1:=hy.same I;obtain⟨af,xf,rfl,Ir,IB⟩:=hx1.tup_of;rw[aC,wts,wts,wts,wts,aC] at J7;rw[dp,dps,dp] at IM;have un:∀ {A:Prop},(∃ j G O,PyData.tuple [.tuple r,.tuple l,.tuple Z]=.tuple [.tuple j,.tuple G,.tuple O]/\gA j G O/\(∀ f∈j,eL j G f=true)/\∀ a b,Pl j a b->¬ Rch (Pl j) b a)->((∀ f∈r,eL r l f=true)/\∀ a b,Pl r a b->¬ Rch (Pl r) b a):=λh=>by
    obtain⟨_,_,_,e,_,h2⟩:=h;cases e;exact h2
   refine⟨_,U,af,U,⟨xf,Ir⟩,?_⟩;show aV _ _ _ _ _ _;refine aV.by (cq (xs:=xf)) (λi σ S=>aA H1 S/\(∀ f∈r.take i,eL r l f=true)/\∃ x4,σ=[some (.ref a),some (.ref af),some y,some z,x4]) ⟨aA.refl _,λf n=>by simp at n,_,U⟩ (λi σ S _ h=>h.1.seqT Ir) ?_ ?_
   · rintro i u σ S JT ⟨t,J,x4,rfl⟩;obtain⟨fd,IT,tf⟩:=IB.get JT;have o:=mGE IT;obtain⟨hh,c,b,rfl,_,c0,c4⟩:=eI (n.fn fd o);have hwm:=cM o;have hdm:=fP o;rw[aC,wts,wts,wts] at hwm;rw[dp,dps,dps,dps] at hdm;have e:eL r l (.tuple [.str hh,.int c,b])=(fit (aX r l) 40 (kn0 c) 0 (c,[]) b).isSome:=rfl;refine⟨_,U,_,U,_,U,u,.ref af,y,hh,c,b,r,l,U,tf.same t,⟨c0,c4⟩,(BD.tup Ir IB).same t,n.fn,hy1.same t,n.rc,by omega,by omega,λH2 Y=>⟨_,U,?_⟩⟩;rw[<- e];cases C:eL r l (.tuple [.str hh,.int c,b]) with
     | false =>
      refine aJ (q false H2 ((I.trans t).trans Y) ⟨λz=>(by cases z),λz=>?_⟩);rw[(un (A:=True) z.ex).1 _ o] at C;cases C
     | true =>
      refine aP ⟨t.trans Y,λf Km=>?_,_,U⟩;rw[tAO,IT] at Km
      rcases mAp.mp Km with z | z
      · exact J f z
      · rw[mSg.mp z];exact C
   · rintro σ S ⟨t,J,x4,rfl⟩;rw[IB.length,List.take_length] at J;refine fC _ _ ?_;have ok1:∀ f∈r,WFx 40 (gF f)/\tJ r (gF f):=λf Km=>by
      obtain⟨w',R⟩:=Option.isSome_iff_exists.mp (J f Km);refine⟨xc R,λb T=>?_⟩;have:=jQ R b T;rw[show (aX r l).F=r.map λf=>(bu f,aY (p0 f)) from rfl,eB,Option.isSome_map] at this;exact this
     refine⟨_,U,.ref af,r,U,(BD.tup Ir IB).same t,n.fn,ok1,by omega,λL H2 ys cs Y hL hp Io Jg=>?_⟩;have hcb:∀ p∈cs,∃ m:Nat,p.2=((m:Nat):Int)/\m<60:=λp B=>by
      obtain⟨i,f,g,h1,h2,h3,h4,h5,h6⟩:=(Jg p.1 p.2).mp B;obtain⟨m,e,hm⟩:=dW h5;have h7:=(gES.mp hm).1;have h8:=n.few;exact⟨m,e,by omega⟩
     have M:∀ x y:Int,Rch (Ed cs) x y↔Rch (Pl r) x y:=λx y=>rT λa b=>Jg a b;have N:=(I.trans t).trans Y;refine⟨L,ys,cs,U,hL,hp,by omega,hcb,λhno H3 s3=>?_,λp B IX k H3 s3=>?_⟩
     · exact⟨U,q true H3 (N.trans s3) ⟨λ_=>⟨r,l,Z,U,n,J,λa b Iw IX=>hno (a,b) ((Jg a b).mpr Iw) ((M _ _).mpr IX)⟩,λ_=>rfl⟩⟩
     · exact⟨U,q false H3 (N.trans s3) ⟨λz=>(by cases z),λz=>((un (A:=True) z.ex).2 p.1 p.2 ((Jg _ _).mp B) ((M _ _).mp IX)).elim⟩⟩
end
end K13
namespace L2
@[simp] theorem Gn:Bz K xs H Q=∃ p d,xs=[.ref p]/\(SqL K H p d\/SqT K H p d)/\Q (.int d.length) H:=propext ⟨λh=>by obtain⟨p,d,a,b,c⟩:=h;exact⟨p,d,a,b,c⟩,λh=>by obtain⟨p,d,a,b,c⟩:=h;exact⟨p,d,a,b,c⟩⟩
end L2
namespace K13
open PySem L2 PySem.Spec PyProof.Rows PySem.SeqAt
section
variable {P:Program} {w:World} {K:Fg} {mg:SOV} {base:Heap}
abbrev ml:Stmt:=top 43
inductive tI (K:Fg) (vs:List V) (H:Hp) (Q:VK):Prop
  | mk (a:Addr) (ns:List Int) (k many:Int) (Iy:vs=[.ref a,.int k,.int many]) (Ik:SqL K H a (ns.map V.int)) (IZ:ns.length<=63) (Jn:0<=k) (g4_:k<=1000000) (g5_:0<many) (g6_:∀ r,0<=r->r<many->Q (.int r) H):tI K vs H Q
def vC (K:Fg):Sp:=λvs H Q _=>tI K vs H Q
def vN:aM ["_law_script","_law_k","_law_many_here","_law_cell","_law_left","_law_j","_law_seed"] ["_law_script","_law_k","_law_many_here"] (ad ml):=fsM
def uk (x m:Int) (h:0<m):0<=x % m/\x % m<m:=⟨Int.emod_nonneg x (by lia),Int.emod_lt_of_pos x h⟩
def zm (D:Def K mg "_law_draw" ml) (T:Blt K mg):Fn P w K mg base "_law_draw" 1 ["_law_script","_law_k","_law_many_here"] (vC K):=by
 refine D.fn vN ?P (λ_ _ _ _ _ _ us hl=>by obtain⟨a,b,c,rfl⟩:=gG hl;rfl) ?X
 · obtain⟨a,ns,k,many,rfl,_⟩:=h;rfl
 · obtain⟨a,ns,k,many,rfl,hS,hlen,k0,k1,hm,q⟩:=h;have nd:=vN.nd;obtain⟨t4,h4,q4⟩:∃ t,PSs (iF CX0 P w K mg base ["_law_script","_law_k","_law_many_here","_law_cell","_law_left","_law_j","_law_seed"] "_law_draw" (ad ml) f kb A outer s H E).nox ((bW ml).drop 3) t /\
    ∀ (c:Int) (l j:Option V),t {nx:=λ_ H'=>Q .non H',rt:=Q} [some (.ref a),some (.int k),some (.int many),some (.int c),l,j,none] H:=by
    refine⟨_,(pE (pN (i:=6) nd U ?D (aT bY (aT bY (aT gu (pv 3) pG) (aT nG (aT nG pG ?E) ?E)) pG))
      (pH (ak (aT gu (aT gu (aT nG (aT gu (aT nG (pv 6) pG) pG) pG) pG) (pv 2))))),λc l j=>?_⟩
    simp;exact⟨.inl ⟨by decide,by decide⟩,.inr ⟨by lia,Hl⟩,.inr ⟨by decide,by decide⟩,.inr ⟨by decide,by decide⟩,hm,q _ (uk _ _ hm).1 (uk _ _ hm).2⟩
   obtain⟨t2,h2,q2⟩:∃ t,PSs (iF CX0 P w K mg base ["_law_script","_law_k","_law_many_here","_law_cell","_law_left","_law_j","_law_seed"] "_law_draw" (ad ml) f kb A outer s H E).nox ((bW ml).drop 1) t /\
    ∀ (c:Int),(10 ^ 18<=c->0<ns.length)->t {nx:=λ_ H'=>Q .non H',rt:=Q} [some (.ref a),some (.int k),some (.int many),some (.int c),none,none,none] H:=by
    refine⟨_,(pE (pN (i:=4) nd U ?D (pv 3))
 (pE (aE (pP Ea (pv 3) (aT wE pG pG) (pQ _)) (pE (cu PassesOwn.never U (bE U T.range (pA (aT gu (aT nH ?E (bq T.len (pA ?C pC))) pG) pC)) (ax (i:=5) nd U ?D)
 (pH (pN (i:=4) nd U ?D (aT nH (pv 4) pG))))
 (pH (aE (pP ig (pv 4) pG (pQ _)) (pH (ak (aT gu (aT gu (aT nH (pv 4) pG) pG) (pv 2)))) am))) am) h4)),λc hc=>?_⟩
    simp;refine⟨⟨by decide,by decide,by decide⟩,?_⟩;by_cases h:c<1000000000000000000
    · exact .inl ⟨h,q4 c _ _⟩
    have hn:0<ns.length:=hc (by lia);have hb:=uk (k / ((ns.map V.int).length:Int)) 60 ?G;refine .inr ⟨by lia,_,.inl hS,⟨by rw[lMp];exact b_z,by rw[lMp];exact Hf⟩,by lia,by lia,?_⟩;refine aV.by bo (λ_ σ H2=>H2=H/\∃ (l:Int) (j:Option V),σ=[some (.ref a),some (.int k),some (.int many),some (.int c),some (.int l),j,none]) ⟨U,c,_,U⟩ (λ_ _ _ _ _=>trivial) ?_ ?_
    · rintro i x σ H2 hx ⟨rfl,l,j,rfl⟩;simp;exact⟨by decide,by decide⟩
    · rintro σ H2 ⟨rfl,l,j,rfl⟩;simp;by_cases h:0<l
      · exact .inr ⟨h,⟨by decide,by decide⟩,hm,q _ (uk _ _ hm).1 (uk _ _ hm).2⟩
      · exact .inl ⟨by lia,q4 c _ _⟩
   refine⟨_,(pE (pN (i:=3) nd U ?D (l8 (pP ig (bq T.len (pA ?C pC)) pG (pQ _)) (aj b8 ?C (aT gu ?E (bq T.len (pA ?C pC))) ?H) pG)) h2),?_⟩;simp;refine⟨_,.inl hS,?_⟩;simp;by_cases hn:ns=[]
   · exact .inl ⟨hn,q2 0 λz=>absurd z ?G⟩
   · have hl:0<ns.length:=List.length_pos_iff.mpr hn;have hb:=uk k (ns.length:Int) (b_z);obtain⟨i,hi⟩:=Int.eq_ofNat_of_zero_le hb.1;have hi':i<ns.length:=by lia
     refine .inr ⟨hl,_,.inl hS,by simpa using hl,_,hS,V.int ns[i],?_,q2 _ λ_=>hl⟩;rw[lMp,hi];exact pI (by simp[hi'])
def StV (H:Hp) (s:Addr) (n:Nat) (m:Str->Option V):Prop:=∃ kvs:List (Key×V),H s=some (.dK kvs)/\kvs.length<=n/\∀ k:Str,bd kvs (.inr k)=m k
def dQ (m:Str->Option V) (k:Str) (v:V):Str->Option V:=λx=>if x=k then some v else m x
def dP (m:Str->Option V) (k:Str) (v:V):dQ m k v k=some v:=if_pos rfl
def bP (m:Str->Option V) (v:V) (h:x≠k:=by left):dQ m k v x=m x:=if_neg h
def wc {k:Key} (v:V) (h:bd kvs k=some u):(cr kvs k v).length=kvs.length:=by
 unfold cr;rw[cy,h];simp
def StV.get {H:Hp} {s:Addr} {n:Nat} {m:Str->Option V} (h:StV H s n m) {k:Str} {v:V} (e:m k=some v):dC H s (.str k) (some v):=by
 obtain⟨c,b,d,a⟩:=h;rw[<- e,<- a k];exact dC.k (k:=.inr k) b
def StV.put (h:StV H s n m) (e:m k=some u) (v:V) (l:n<=1000):∃ a,gY H s (.str k) v a/\(∀ b,b≠s->a b=H b)/\StV a s n (dQ m k v):=by
 obtain⟨g,i,f,c⟩:=h;have o:1000<sizeLine:=by decide
 refine⟨_,gY.k (k:=.inr k) i (Fo),λb d=>ai d,_,pF,?_,λx=>?_⟩
 · rw[wc v (by rw[c k,e])];exact f
 · rw[dh,c x];unfold dQ;by_cases j:x=k
   · grind
   · grind
def StV.new (h:StV H s n m) (k:Str) (v:V) (j:n<=1000):∃ c,gY H s (.str k) v c/\(∀ b,b≠s->c b=H b)/\StV c s (n+1) (dQ m k v):=by
 obtain⟨a,f,i,e⟩:=h;have l:1000<sizeLine:=by decide
 refine⟨_,gY.k (k:=.inr k) f (Fo),λb d=>ai d,_,pF,?_,λx=>?_⟩
 · have:=bS a (.inr k) v;lia
 · rw[dh,e x];unfold dQ;by_cases g:x=k
   · grind
   · grind
abbrev sPk:Stmt:=top 44
def Mo (H:Hp) (s:Addr) (H':Hp):Prop:=∀ b,b≠s->H' b=H b
inductive tH (K:Fg) (vs:List V) (H:Hp) (Q:VK):Prop
  | mk (s a:Addr) (n:Nat) (m:Str->Option V) (ns:List Int) (k many:Int) (Iy:vs=[.ref s,.int many]) (Ik:StV H s n m) (IZ:n<=1000) (Jn:m "script"=some (.ref a)) (g4_:a≠s) (g5_:SqL K H a (ns.map V.int)) (g6_:ns.length<=63) (g7_:m "k"=some (.int k)) (g8_:0<=k) (g9_:k<1000000) (g10_:0<many) (g11_:∀ r H',0<=r->r<many->Mo H s H'->StV H' s n (dQ m "k" (.int (k+1)))->Q (.int r) H'):tH K vs H Q
def jo (K:Fg):Sp:=λvs H Q _=>tH K vs H Q
def DE:aM ["_law_state","_law_many_here"] ["_law_state","_law_many_here"] (ad sPk):=fsM
def SqL.mo (h:SqL K H a xs) (b:Mo H s H') (ne:a≠s):SqL K H' a xs:=by
 rcases h with (h | ⟨o,h⟩) | h
 · exact .inl (.inl (by rw[b a ne];exact h))
 · exact .inl (.inr ⟨o,by rw[b a ne];exact h⟩)
 · exact .inr h
def Et (D:Def K Y "_law_pick" sPk) (T:Blt K Y) (v:Fn P w K Y B "_law_draw" 1 ["_law_script","_law_k","_law_many_here"] (vC K)):Fn P w K Y B "_law_pick" 2 ["_law_state","_law_many_here"] (jo K):=by
 refine D.fn DE (λZ H Q E h=>?_) (λ_ _ _ _ _ _ O I=>by obtain⟨a,b,rfl⟩:=f8 I;rfl) (λf M A i L H W Q E t h=>?_)
 · obtain⟨s,a,n,m,o,k,c,rfl,_⟩:=h;rfl
 · obtain⟨s,a,n,m,o,k,c,rfl,l,G,x,C,J,f,j,S,N,y,q⟩:=h;have R:=DE.nd;have g:=dN t;refine⟨_,(pE (dr g ?C pD (aT bY (pM g ?C pD ?H) pG) U)
 (pH (ak (aB v (t.mono ?G) U (pA (pM g ?C pD ?H) (pA (pM g ?C pD ?H) (pA ?E pC))))))),?_⟩
   obtain⟨p,F,e,d⟩:=l.put j (.int (k+1)) G;refine⟨_,U,s,_,U,l.get j,_,_,U,U,_,U,s,p,U,F,?_⟩;refine⟨_,U,s,_,U,d.get (by rw[bP _ _ (by left)];exact x),_,U,s,_,U,d.get (dP _ _ _),_,U,?_⟩;exact⟨a,o,k+1,c,U,SqL.mo J e C,f,Hg,by lia,y,λr z u=>q r p z u e d⟩
end
def zq (q:Q (.bl (!decide (c∈y.cps.toList))) H):tC (.str y) σ H λv a=>vY (sgn c) v a Q:=zo q
def zM (xs:List V):eqL xs []=xs.isEmpty:=by cases xs <;> rfl
def uS (c:Nat):(!decide (c∈("abcdefghijklmnopqrstuvwxyz":Str).cps.toList))=!inR 97 122 c:=by
 have e:("abcdefghijklmnopqrstuvwxyz":Str).cps.toList=(List.range 26).map (·+97):=by left
 rw[e];congr 1;by_cases h:97<=c/\c<=122
 · have a:c∈(List.range 26).map (·+97):=List.mem_map.mpr ⟨c-97,List.mem_range.mpr ?A,by omega⟩;rw[decide_eq_true a];simp[inR,h]
 · have a:c∉(List.range 26).map (·+97):=λz=>by
    obtain⟨i,d,rfl⟩:=List.mem_map.mp z;exact h ⟨by omega,by have:=List.mem_range.mp d;omega⟩
   rw[decide_eq_false a];simp only[inR];by_cases b:97<=c
   · grind
   · simp[b]
def pz {l:List Nat}:(((l.filter λc=>!p c).map sgn).isEmpty)=l.all p:=by
 induction l with
 | nil=>rfl
 | cons a l b=>cases h:p a <;> simp[h,b]
def xa (l:List Nat):(l.map sgn).all fK=true:=by
 rw[List.all_map,List.all_eq_true];intro x _;rfl
section
variable {P:Program} {w:World} {K:Fg} {J:SOV} {base:Heap}
abbrev sLw:Stmt:=top 51
def G8:aM ["_law_thing","_law_least","_law_most"] ["_law_thing","_law_least","_law_most"] (ad sLw):=fsM
def Ex (D:Def K J "_law_whole" sLw) (T:Blt K J):Fn P w K J base "_law_whole" 1 ["_law_thing","_law_least","_law_most"] (lK K):=by
 refine D.fn G8 ?P (λ_ _ _ _ _ _ us hl=>by obtain⟨a,b,c,rfl⟩:=gG hl;rfl) ?X
 · obtain⟨v,d,a,b,rfl,_⟩:=h;rfl
 · obtain⟨v,d,a,b,rfl,hv,hw,q⟩:=h;refine⟨_,(pH (ak (cJ (bO T.isinstance (pA ?C (pA (ba (v:=.ty "int") U T.int i8 U) pC))) (cJ (wo (bO T.isinstance (pA ?C (pA (ba (v:=.ty "bool") U T.bool fE U) pC)))) (de (gM fV fV ?E ?C (pv 2))))))),?_⟩;have e0:=wV d;replace q:=q H (aA.refl H);refine⟨_,U,v,d,_,U,hv,Cb,T.kit,_,U,?_⟩;cases e:cA "int" d with
   | false=>rw[e] at e0;rw[qp e0] at q;exact aP q
   | true =>
    rw[e] at e0;refine aJ ⟨_,U,v,d,_,U,hv,wW,T.kit,_,U,?_⟩;cases e1:cA "bool" d with
    | true=>rw[e1] at e0;rw[qp e0] at q;exact⟨_,U,aP q⟩
    | false =>
     rw[e1] at e0;obtain⟨i,rfl⟩:=cV e0;rw[hv.int_of];refine⟨_,U,aJ ⟨_,U,_,U,_,_,U,U,_,U,?_⟩⟩;have e2:wIn a b (.int i)=(decide (a<=i)&&decide (i<=b)):=rfl;rw[e2] at q;by_cases h1:a<=i
     · rw[decide_eq_true h1] at q ⊢;exact aJ ⟨_,U,_,_,U,U,q⟩
     · rw[decide_eq_false h1] at q ⊢;exact aP q
abbrev sLi:Stmt:=top 52
def DI:aM ["_law_thing","_law_heads","_law_words","_law_sign"] ["_law_thing"] (ad sLi):=fsM
def EA (D:Def K J "_law_is_word" sLi) (T:Blt K J):Fn P w K J base "_law_is_word" 1 ["_law_thing"] (spA fW K):=by
 refine D.fn DI ?P (λ_ _ _ _ _ _ us hl=>by obtain⟨a,rfl⟩:=dM hl;rfl) (λf kb A m s H vs Q E hr h=>?_)
 · ext j
 · obtain⟨v,d,rfl,o,I,q⟩:=h;have t:=DI.nd;refine⟨_,(pE (pN (i:=1) t U ?D pD)
 (pE (pN (i:=2) t U ?D (A9 (aT qI ?E pD) (pA pD pC)))
 (pE (aE (PW.pt (bF (aU (aQ (bO T.isinstance (pA ?C (pA (ba (v:=.ty "str") U T.str cG U) pC))))) (bF (pP fj ?C (pv 2) (by with_unfolding_all rfl)) (bJ (aU (oQ fV fV pG (ym T.len (pA ?C pC)) pG)))))) ?O am)
 (pH (ak (bL (BM (dN hr)) (cO (own:=["_law_sign"]) (outs:=[]) U (aG.own U (by left) (by left)) (wm ?C) (λ_ _ _ _=>⟨(ax (i:=0) (nd1 _) U ?D),(bM (pP zh ?C pD (by with_unfolding_all rfl))),?C⟩)) (bb pC) (pQ _))))))),?_⟩
   refine⟨_,U,_,_,U,U,by left,U,_,_,U,U,by left,by left,by left,by left,by left,λp O=>?_⟩;have e:Builtin.Str.partsBetween ?Ac (Builtin.Str.occurrences ?Ac (" ":Str) 0 (?Ac).length ((?Ac).length+1)) (" ":Str).length=kept:=by left
   rw[e];have g:aA H (upd H p (.lst (kept.map V.str))):=smu O;have u:SqL K (upd H p (.lst (kept.map V.str))) p (kept.map V.str):=SqL.of pF;have j:BD K (upd H p (.lst (kept.map V.str))) v d:=o.same g;generalize upd H p (.lst (kept.map V.str))=S at g u j;refine⟨_,U,v,d,_,U,j,lR,T.kit,?_⟩;dsimp only;cases n:cA "str" d with
   | false =>
    have e:fW d=false:=by cases d <;> first | rfl | cases n
    rw[e] at q;exact⟨_,U,aJ (q S g)⟩
   | true =>
    obtain⟨z,rfl⟩:=gq n;rw[o.str_of] at *;have l:z.length<=1000000:=by rw[dv] at I;omega
    ext d
    replace l:z.length<=sizeLine:=by omega
    refine⟨_,U,aP ⟨_,U,_,U,p,_,U,.inl u,U,dB _,_,U,?_⟩⟩;have en:fW (.str z)=bD z:=rfl;rw[en] at q;rw[eT];cases r:kept.any λy=>y==z
    · refine aP ?_;simp;refine⟨l,?_⟩;by_cases h1:(z.length:Int)<1
      · refine .inl ⟨h1,?_⟩;have e:bD z=false:=by
         have:¬ (1<=z.length):=by omega
         simp[bD,this]
        rw[<- e];exact q S g
      refine .inr ⟨by omega,?_⟩;by_cases G:8<(z.length:Int)
      · refine .inl ⟨G,?_⟩;have e:bD z=false:=by
         have:¬ (z.length<=8):=by omega
         simp[bD,this]
        rw[<- e];exact q S g
      refine .inr ⟨by omega,λL x=>?_⟩;refine pX x l (λc=>!inR 97 122 c) sgn (λc N R T hc a b=>?_) ?_
      · refine⟨_,U,?_⟩;refine zq ⟨_,U,?_⟩;rw[uS];cases F:!inR 97 122 c
        · exact aP (A:=_) (b F)
        · exact aJ (B:=T N) ⟨_,U,a F⟩
      · intro C k;have ne:L≠C:=aD pF k;refine⟨L,C,_,_,U,U,ne,SqL.of (by rw[ai ne,pF]),SqL.of pF,xa _,U,?_⟩;rw[zM,pz];have e:bD z=z.cps.toList.all (inR 97 122):=by
         have M:1<=z.length:=by omega
         have a2:z.length<=8:=by omega
         simp[bD,r,M,a2]
        rw[<- e];exact q _ (g.trans ((smu x).trans (smu k)))
    · refine aJ ?_;have e:bD z=false:=by simp[bD,r]
      show Q (.bl false) S;rw[<- e];exact q S g
end
end K13
namespace L2
open PySem PySem.Spec PyProof.Rows
section
variable {X:Cx}
def GA (K:Fg):R2:=λx y H Q=>∃ p q xs,x=.ref p/\y=.ref q/\SqL K H p xs/\SqL K H q []/\Q (.bl xs.isEmpty) H
def wG (E:X.A.units+1<cLine):OpR X (compareOp .Eq) (GA X.K):=by
 intro f s σ H x y v u Q I m w h;obtain⟨p,q,c,rfl,rfl,l,B,k⟩:=h;cases m;cases w;obtain⟨n,a,g,G⟩:=I.list l;obtain⟨J,i,d,C⟩:=I.list B;have F:=a.length;have t:=i.nil_iff.mpr rfl;subst t;by_cases b:c=[]
 · subst b;have r:=a.nil_iff.mpr rfl;subst r;refine SeqAt.eq_listAt (e:=λ_=>true) g.isList d.isList U (by lia) (λj D o=>absurd o ?B) ?_;exact⟨.bl true,H,I,U,k⟩
 · have j:=λz=>b (a.nil_iff.mp z);refine SeqAt.eq_list_lengthsAt g.isList d.isList (by simpa using j) (by lia) ?_;have:c.isEmpty=false:=by cases c with | nil=>exact absurd U b | cons _ _=>rfl
   rw[this] at k;exact⟨.bl false,H,I,U,k⟩
def yW (K:Fg):R2:=λx y H Q=>∃ p q xs,x=.ref p/\y=.ref q/\SqL K H p xs/\SqL K H q []/\Q (.bl (!xs.isEmpty)) H
def ir (F:X.A.units+1<cLine):OpR X (compareOp .NotEq) (yW X.K):=by
 intro f s σ H x y v u Q I m B h;obtain⟨p,q,c,rfl,rfl,l,C,k⟩:=h;cases m;cases B;obtain⟨n,a,g,J⟩:=I.list l;obtain⟨L,i,d,D⟩:=I.list C;have G:=a.length;have t:=i.nil_iff.mpr rfl;subst t;by_cases b:c=[]
 · subst b;have r:=a.nil_iff.mpr rfl;subst r;exact SeqAt.RcNeAt.lists (e:=λ_=>true) g.isList d.isList U (by lia) (λj E o=>absurd o ?B) X.prog X.w X.xe _ ⟨.bl false,H,I,U,k⟩
 · have j:=λz=>b (a.nil_iff.mp z);have:c.isEmpty=false:=by cases c with | nil=>exact absurd U b | cons _ _=>rfl
   rw[this] at k;exact SeqAt.RcNeAt.lists_lengths g.isList d.isList (by simpa using j) (by lia) X.prog X.w X.xe _ ⟨.bl true,H,I,U,k⟩
end
end L2
namespace K13
open PySem L2 PySem.Spec PyProof.Rows PySem.SeqAt
section
variable {K:Fg} {H:Hp}
def p8 {lo:Int} {n i:Nat} (h:(bN lo n)[i]?=some x):x=.int (lo+i)/\i<n:=by
 unfold L2.bN at h;rw[gEM] at h;obtain⟨j,b,rfl⟩:=oMS.mp h;have a:=(gES.mp b).1;rw[List.length_range] at a;rw[List.getElem?_range a] at b;cases b;exact⟨U,a⟩
def AA (f:PyData->Bool) {bT:L2.St} (w:SqT K H a xs) (t:BDs K H xs ds) (r:H L=none) (hz:ds.length<=900000)
 (step:∀ x d g (R:Bool->Hp->Prop),BD K g x d->d∈ds->aA H g->(∀ u,aA g u->R (!f d) u)->tc (some x::bT) g R)
 (q:∀ g b,aA H g->g L=some (.lst b)->b.isEmpty=ds.all f->Q (.ref L) g):bj (Itt K a) (cP 0) tc (cw 0) Q (none::bT) H L:=by
 have D:1000000<sizeLine:=by decide
 have v:=smu (o:=HO.lst []) r;refine bj.by (cq) (λi E j=>aA H j/\(∃ b:List V,j L=some (.lst b)/\b.length<=i/\b.isEmpty=(ds.take i).all f)/\∃ y,E=y::bT) ⟨v,⟨[],pF,Nat.le_refl _,U⟩,_,U⟩ (λi E j _ h=>h.1.seqT w) ?_ ?_
 · rintro i x E j A ⟨k,⟨b,m,z,c⟩,y,rfl⟩;obtain⟨d,n,B⟩:=t.get A;have C:=(gES.mp n).1;have s:(ds.take (i+1)).all f=((ds.take i).all f&&f d):=by rw[tAO,n,List.all_append];simp
   rw[aL];refine step x d j _ (B.same k) (mGE n) k λG p=>?_;have l:=k.trans p;cases e:f d with
   | false =>
    refine⟨_,U,b,p _ _ m,by omega,aK l r,⟨_,pF,?_,?_⟩,_,U⟩
    · rw[lAp,List.length_singleton];omega
    · rw[s,e,Bool.and_false];cases b <;> rfl
   | true=>exact⟨l,⟨b,p _ _ m,by omega,by rw[s,e,Bool.and_true];exact c⟩,_,U⟩
 · rintro E j ⟨k,⟨b,m,_,c⟩,y,rfl⟩;rw[t.length,List.take_length] at c;exact q _ b k m c
end
def wC (h:bD s=true):fU (.tuple [.str s,.int n])=true:=by
 show (bD s&&true)=true;rw[h];rfl
def iU:PyData->Bool
  | .tuple [n,k]=>fW n&&wIn 0 99 k
  | _=>false
def lg (h:iU d=true):∃ s n,d=.tuple [.str s,.int n]/\bD s=true:=by
 unfold iU at h;split at h
 · rename_i n k
   rw[Bool.and_eq_true] at h;cases n <;> first | exact absurd (show false=true from h.1) Bool.false_ne_true | skip
   cases k <;> first | exact absurd (show false=true from h.2) Bool.false_ne_true | skip
   exact⟨_,_,U,h.1⟩
 · cases h
def wA {fs f b:PDs} (z:gA fs f b) (a:d∈b):iU d=true:=by
 obtain⟨s,n,rfl,c⟩:=lh (z.op d a);have e:=z.ops.nr.mem_iff.mp (List.mem_map.mpr ⟨_,a,U⟩);have:=(lf fs 0).2.1 n e;have:=z.few;show (bD s&&(decide (0<=n)&&decide (n<=99)))=true;rw[c,decide_eq_true ?A,decide_eq_true ?A];rfl
section
variable {P:Program} {w:World} {K:Fg} {k:SOV} {base:Heap}
abbrev sFa:Stmt:=top 53
abbrev nFa:List Str:=["_law_core_here","_law_one","_law_opened","_law_names"]
def DL:aM nFa ["_law_core_here"] (ad sFa):=fsM
def GM:(["_law_k","_law_core_here"]:List Str).Nodup:=by left
def GL:(["_law_k","_law_names"]:List Str).Nodup:=by left
def EI (D:Def K k "_law_face" sFa) (T:Blt K k) (bc:Fn P w K k base "_law_whole" 1 ["_law_thing","_law_least","_law_most"] (lK K)) (dl:Fn P w K k base "_law_is_word" 1 ["_law_thing"] (spA fW K)):Fn P w K k base "_law_face" 2 ["_law_core_here"] (yN K):=by
 refine D.fn DL ?P (λ_ _ _ _ _ _ us hl=>by obtain⟨a,rfl⟩:=dM hl;rfl) ?X
 · ext j
 · obtain⟨v,d,rfl,hv,hw,ho60,q⟩:=h;have nd:=DL.nd;have hu:=dN hr;have IL:(A.deeper (PyProof.Rows.envOfC "_law_face" (ad sFa) s.heap.objs.size f kb)).units+64<cLine:=by have:=hr.un;omega
   ext d
   refine⟨_,(pE (aE (PW.pt (bF (aU (aQ (bO T.isinstance (pA ?C (pA (ba (v:=.ty "tuple") U T.tuple bG U) pC))))) (bF (pP fz (bq T.len (pA ?C pC)) pG (pQ _)) (bJ (pP (ir hu) (cO (own:=["_law_one"]) (outs:=[]) (tc:=yD (dA (tCB (yY K) (gE (cw 0) (gE (tC (.ty "tuple")) lJ))))) U (aG.of (ad sFa) nFa) (cI ?C) (λ_ _ _ _=>⟨(ax (i:=0) (nd1 _) U ?D),(bM (aU (aQ (bO T.isinstance (pA ?C (pA (ba (v:=.ty "tuple") U T.tuple bG U) pC)))))),?C⟩)) (bb pC) (pQ _)))))) ?O am)
 (pE (aE (PW.pt (bF (pP ig (aT bY (bq T.len (pA ?I pC)) (bq T.len (pA ?I pC))) pG (pQ _)) (bJ (pP (ir hu) (cO (own:=["_law_one"]) (outs:=[]) U (aG.of (ad sFa) nFa) (cI ?I) (λ_ _ _ _=>⟨(ax (i:=0) (nd1 _) U ?D),(bM (aU (aQ (aB bc ?S U (pA ?C (pA pG (pA pG pC))))))),?C⟩)) (bb pC) (pQ _))))) ?O am)
 (pE (cu PassesOwn.never U (cI ?I) (ax (i:=1) nd U ?D)
 (pE (aE (PW.pt (bF (aU (aQ (bO T.isinstance (pA ?E (pA (ba (v:=.ty "tuple") U T.tuple bG U) pC))))) (bF (pP fz (bq T.len (pA ?E pC)) pG (pQ _)) (bJ (aU (aQ (bO T.isinstance (pA (aj ae ?E pG ?H) (pA (ba (v:=.ty "str") U T.str cG U) pC))))))))) ?O am)
 (pH (aE (PW.pt (bF (pP iV (aj ae ?E pG ?H) (aN (pA pD (pA pD (pA pD pC)))) (by with_unfolding_all rfl)) (bJ (aU (aQ (aB bc ?S U (pA (aj ae ?E pG ?H) (pA pG (pA pG pC))))))))) ?O am))))
 (pE (cu PassesOwn.never U (cI ?I) (ax (i:=1) nd U ?D)
 (pH (aE (PW.pt (bF (aU (aQ (bO T.isinstance (pA ?E (pA (ba (v:=.ty "tuple") U T.tuple bG U) pC))))) (bF (pP fz (bq T.len (pA ?E pC)) pG (pQ _)) (bF (aU (aQ (aB dl ?S U (pA (aj ae ?E pG ?H) pC)))) (bJ (aU (aQ (aB bc ?S U (pA (aj ae ?E pG ?H) (pA pG (pA pG pC))))))))))) ?O am)))
 (pE (iQ (i0:=2) (own:=["_law_k"]) (outs:=[(0,"_law_core_here")]) (tc:=dA (tOp rEq (tOp (fN K) (tOp (fN K) (tOp (fN K) (cw 1) (tC (.int 0))) (cw 0)) (tC (.int 0))) (tC (.str "open")))) U (aG.of (ad sFa) nFa) (bE U T.range (pA (bq T.len (pA ?I pC)) pC)) (λ_ _ _ _=>⟨(ax (i:=0) GM U ?D),(bM (pP aZ (aj ae (aj ae (aj ae ?E pG ?H) ?C ?H) pG ?H) pD (pQ _))),?C⟩) nd U U)
 (pE (pN (i:=3) nd U (Or.inr U) (cO (own:=["_law_one"]) (outs:=[]) (te:=tOp (fN K) (cw 0) (tC (.int 0))) U (aG.of (ad sFa) nFa) (cI ?I) (λ_ _ _ _=>⟨(ax (i:=0) (nd1 _) U ?D),bC,?I⟩)))
 (pE (aE (PW.pt (bF (pP (nF IL) (mU T.sorted (pA (cO (own:=["_law_one"]) (outs:=[]) (te:=tOp (fN K) (cw 0) (tC (.int 1))) U (aG.of (ad sFa) nFa) (cI ?I) (λ_ _ _ _=>⟨(ax (i:=0) (nd1 _) U ?D),bC,?I⟩)) pC)) (pv 2) (pQ _)) (bJ (pP (nF IL) (pv 3) (uY T.sorted (pA (pv 3) pC)) (pQ _))))) ?O am)
 (pH (ak (bL (wG hu) (cO (own:=["_law_k"]) (outs:=[(3,"_law_names")]) (tc:=dA (tOp rEq (tOp (oP K) (cw 1) (cw 0)) (tOp (oP K) (cw 1) (tOp (rI0 λi j=>V.int (i-j)) (cw 0) (tC (.int 1)))))) U (aG.of (ad sFa) nFa) (uc U T.range (pA pG (pA (bq T.len (pA (pv 3) pC)) pC))) (λ_ _ _ _=>⟨(ax (i:=0) GL U ?D),(bM (pP aZ (aj b8 ?E ?C ?H) (aj b8 ?E (aT dX ?C pG) ?H) (pQ _))),?C⟩)) (bb pC) (pQ _))))))))))),?_⟩
   ext b;have fl:∀ {u:Hp},aA H u->(∀ J rs g,d=.tuple [.tuple J,.tuple rs,.tuple g]->gA J rs g->False)->Q (.bl false) u:=λF h=>q false _ F ⟨λz=>(by cases z),λ⟨J,rs,g,e,p⟩=>(h J rs g e p).elim⟩;refine ab λjP f9=>?_;refine⟨_,U,v,d,_,U,hv,iB,T.kit,_,U,?_⟩;cases e:cA "tuple" d with
   | false=>exact aJ (aJ (fl (aA.refl H) λJ rs g ed _=>by subst ed;cases e))
   | true =>
   obtain⟨l,rfl⟩:=eZ e;obtain⟨a,xs,rfl,ha,hxs⟩:=hv.tup_of;refine aP ⟨_,U,a,xs,U,.inr ha,U,_,U,?_⟩;have hxl:=hxs.length;by_cases h3:l.length=3
   case neg=>exact pK (by rw[hxl];simp;omega) (aJ (fl (aA.refl H) λJ rs g ed _=>by cases ed;exact h3 U))
   refine pJ (by rw[hxl];simp;omega) ?_;rw[nu,kU,bU];refine⟨_,U,a,U,⟨_,ha⟩,λL hL=>?_⟩;refine AA (bT:=[]) isT ha hxs hL ?A ?_ ?_
   · exact λx d u R tx hd F r=>⟨_,U,x,d,_,U,tx,iB,T.kit,_,U,by rw[lq];exact r u (aA.refl _)⟩
   refine λH1 ys s1 JE hye=>⟨jl,λM hM=>?_⟩;have k2:=smu (o:=HO.lst []) hM;refine⟨L,M,ys,U,U,SqL.of (k2 _ _ JE),SqL.of pF,_,U,?_⟩;rw[hye];have O:=s1.trans k2;generalize upd H1 M (.lst [])=H2 at O ⊢;obtain⟨d0,d1,d2,rfl⟩:=gG h3;obtain⟨a',x,y,z,ea,K2,hx,hy,hz⟩:=gD (hv);cases ea;cases e1:[d0,d1,d2].all isT with
   | false=>exact aJ (fl O λJ rs g ed _=>by cases ed;cases e1)
   | true =>
   have e1':=dJ.mp e1;obtain⟨J,rfl⟩:=fA (e1' d0 ?B);obtain⟨rs,rfl⟩:=fA (e1' d1 ?B);obtain⟨g,rfl⟩:=fA (e1' d2 ?B);rw[aC,wts,wts,wts,wts,aC,aC,aC] at hw;obtain⟨af,xf,rfl,Ir,IB⟩:=hx.tup_of;obtain⟨ar,xr,rfl,IS,IP⟩:=hy.tup_of;obtain⟨ao,xo,rfl,hao,hxo⟩:=hz.tup_of;have no:∀ {u:Hp},aA H u->(gA J rs g->False)->Q (.bl false) u:=λF h=>fl F λfs' rs' os' ed p=>by cases ed;exact h p
   clear fl;refine aP (f9 _ _ (ab λjx fC=>?_));refine⟨_,U,a,_,0,_,U,U,O.seqT K2,pI (j:=0) U,af,xf,U,.inr (O.seqT Ir),_,U,a,_,1,_,U,U,O.seqT K2,pI (j:=1) U,ar,xr,U,.inr (O.seqT IS),_,_,U,U,_,_,U,U,_,U,?_⟩;rw[IB.length,IP.length];by_cases h40:J.length+rs.length<=40
   case neg=>exact pK ?Q (aJ (no O λz=>h40 z.few))
   refine pJ ?Q ?_;rw[nu,kU,bU];refine⟨_,U,a,_,1,_,U,U,O.seqT K2,pI (j:=1) U,ar,U,⟨_,O.seqT IS⟩,λL3 hL3=>?_⟩;refine AA (bT:=[]) (wIn 1 4) (O.seqT IS) (IP.same O) hL3 ?A ?_ ?_
   · exact λx d u R tx hd F r=>⟨_,U,x,d,1,4,U,tx,by have:=cM hd;omega,λH2 O=>⟨_,U,r H2 O⟩⟩
   refine λH3 ys3 s3 hL3 hye3=>⟨jl,λM3 K6=>?_⟩;have k4:=smu (o:=HO.lst []) K6;refine⟨L3,M3,ys3,U,U,SqL.of (k4 _ _ hL3),SqL.of pF,_,U,?_⟩;rw[hye3];have s4:=(O.trans s3).trans k4;generalize upd H3 M3 (.lst [])=H4 at s4 ⊢;cases e2:rs.all (wIn 1 4) with
   | false=>exact aJ (no s4 λz=>by rw[dJ.mpr z.rc] at e2;cases e2)
   | true =>
   refine aP (fC _ _ (ab λmy gH=>?_));have e2':=dJ.mp e2;have hfl:=IB.length;have hol:=hxo.length;have hol':=cN g;have ho6:=ho60 _ _ _ rfl;refine⟨_,U,a,_,0,_,U,U,s4.seqT K2,pI (j:=0) U,af,U,⟨_,s4.seqT Ir⟩,?_⟩;show aV _ _ _ _ _ _;refine aV.by (cq (xs:=xf)) (λi C Hi=>aA H Hi/\(J.take i).all fO=true/\∃ x1,C=[some (.ref a),x1,none,none]) ⟨s4,U,_,U⟩ (λi C Hi _ h=>h.1.seqT Ir) ?_ ?_
   · rintro i x C Hi Ih ⟨B,HP,x1,rfl⟩;obtain⟨fd,IT,tf⟩:=IB.get Ih;replace tf:=tf.same B;have hfm:=mGE IT;have hwf:=cM hfm;have et:(J.take (i+1)).all fO=fO fd:=by rw[tAO,IT,List.all_append,HP];simp
     have t:∀ {u:Hp},aA H u->fO fd=false->Q (.bl false) u:=λF e=>no F λz=>by rw[z.fn _ hfm] at e;cases e
     rw[aL];refine ab λBZ Ik=>?_;refine⟨_,U,x,fd,_,U,tf,iB,T.kit,_,U,?_⟩;cases f1:cA "tuple" fd with
     | false=>exact aJ (aJ (t B (by cases fd <;> first | rfl | cases f1)))
     | true =>
     obtain⟨l3,rfl⟩:=eZ f1;obtain⟨ta,xt,rfl,JV,m⟩:=tf.tup_of;have htl:=m.length;refine aP ⟨_,U,ta,xt,U,.inr JV,U,_,U,?_⟩;by_cases f3:l3.length=3
     case neg=>exact pK (by rw[htl];simp;omega) (aJ (t B (sM (decide_eq_false ?A))))
     refine pJ (by rw[htl];simp;omega) ?_;obtain⟨d0,d1,d2,rfl⟩:=gG f3;cases m with
     | cons t0 m =>
     cases m with
     | cons t1 m =>
     refine⟨_,U,ta,_,0,_,U,U,JV,pI (j:=0) U,_,d0,_,U,t0,lR,T.kit,_,U,?_⟩;cases f2:cA "str" d0 with
     | false=>exact aJ (t B (by cases d0 <;> first | rfl | cases f2))
     | true =>
     obtain⟨h,rfl⟩:=gq f2;obtain rfl:=t0.str_of;have e3:fO (.tuple [.str h,d1,d2])=(iC h&&wIn 0 4 d1):=rfl;refine aP (Ik _ _ ?_);refine⟨_,U,ta,_,0,_,U,U,JV,pI (j:=0) U,ma,λM hM=>⟨M,_,U,.inr (SqT.of pF),U,dB ["function","deep","open"],_,U,?_⟩⟩;rw[show (inV (V.str h) [V.str "function",V.str "deep",V.str "open"])=iC h from eT h ["function","deep","open"]];have km:=smu (o:=HO.tup [V.str "function",V.str "deep",V.str "open"]) hM;generalize upd Hi M (.tup [V.str "function",V.str "deep",V.str "open"])=H5 at km ⊢;have s5:=B.trans km;cases f4:iC h with
     | false=>exact aJ (aJ (t s5 (by rw[e3,f4];rfl)))
     | true =>
     rw[aC,wts,wts] at hwf;refine aP ⟨_,U,ta,_,1,_,U,U,km.seqT JV,pI (j:=1) U,_,d1,0,4,U,t1.same km,by omega,λH' F=>⟨_,U,?_⟩⟩;cases f5:wIn 0 4 d1 with
     | false=>exact aJ (t (s5.trans F) (by rw[e3,f4,f5];rfl))
     | true=>exact aP ⟨s5.trans F,by rw[et,e3,f4,f5];rfl,_,U⟩
   rintro C H5 ⟨s5,HP,x1,rfl⟩;rw[hfl,List.take_length] at HP;have hfn:=dJ.mp HP;clear HP s4;refine gH _ _ (ab λoX iD=>?_);refine⟨_,U,a,_,2,_,U,U,s5.seqT K2,pI (j:=2) U,ao,U,⟨_,s5.seqT hao⟩,?_⟩;show aV _ _ _ _ _ _;refine aV.by (cq (xs:=xo)) (λi C Hi=>aA H Hi/\(g.take i).all iU=true/\∃ x1,C=[some (.ref a),x1,none,none]) ⟨s5,U,_,U⟩ (λi C Hi _ h=>h.1.seqT hao) ?_ ?_
   · rintro i x C Hi Ih ⟨B,HP,x1,rfl⟩;obtain⟨fd,IT,tf⟩:=hxo.get Ih;replace tf:=tf.same B;have hfm:=mGE IT;have hwf:=cM hfm;have et:(g.take (i+1)).all iU=iU fd:=by rw[tAO,IT,List.all_append,HP];simp
     have t:∀ {u:Hp},aA H u->iU fd=false->Q (.bl false) u:=λF e=>no F λz=>by rw[wA z hfm] at e;cases e
     rw[aL];refine⟨_,U,x,fd,_,U,tf,iB,T.kit,_,U,?_⟩;cases f1:cA "tuple" fd with
     | false=>exact aJ (aJ (t B (by cases fd <;> first | rfl | cases f1)))
     | true =>
     obtain⟨l3,rfl⟩:=eZ f1;obtain⟨ta,xt,rfl,JV,m⟩:=tf.tup_of;have htl:=m.length;refine aP ⟨_,U,ta,xt,U,.inr JV,U,_,U,?_⟩;by_cases f3:l3.length=2
     case neg =>
      refine pK (by rw[htl];simp;omega) (aJ (t B ?_));unfold iU;split
      · rename_i ee;cases ee;exact absurd U f3
      · rfl
     refine pJ (by rw[htl];simp;omega) ?_;obtain⟨d0,d1,rfl⟩:=f8 f3;cases m with
     | cons t0 m =>
     cases m with
     | cons t1 m =>
     have e3:iU (.tuple [d0,d1])=(fW d0&&wIn 0 99 d1):=rfl;rw[aC,wts,wts] at hwf;refine⟨_,U,ta,_,0,_,U,U,JV,pI (j:=0) U,_,d0,U,t0,by omega,λH' F=>⟨_,U,?_⟩⟩;have s6:=B.trans F;cases f4:fW d0 with
     | false=>exact aJ (aJ (t s6 (by rw[e3,f4];rfl)))
     | true =>
     refine aP ⟨_,U,ta,_,1,_,U,U,F.seqT JV,pI (j:=1) U,_,d1,0,99,U,t1.same F,by omega,λH2 O=>⟨_,U,?_⟩⟩;cases f5:wIn 0 99 d1 with
     | false=>exact aJ (t (s6.trans O) (by rw[e3,f4,f5];rfl))
     | true=>exact aP ⟨s6.trans O,by rw[et,e3,f4,f5];rfl,_,U⟩
   rintro C H6 ⟨s6,HP,x2,rfl⟩;rw[hol,List.take_length] at HP;have hol2:=dJ.mp HP;clear HP s5;have hnm:∀ x∈g.map nmD,bD x=true:=λx IG=>by
    obtain⟨d,hd,rfl⟩:=List.mem_map.mp IG;obtain⟨s,n,rfl,hn⟩:=lg (hol2 d hd);exact hn
   have two:∀ {i:Nat} {x:V} {u:Hp},aA H u->xo[i]?=some x->∃ (b:Addr) (s:Str) (n:Int),x=.ref b/\SqT K u b [.str s,.int n]/\nmD (g[i]?.getD .none)=s/\nrD (g[i]?.getD .none)=n:=λF IG=>by
    obtain⟨d,hd,td⟩:=hxo.get IG;obtain⟨s,n,rfl,hn⟩:=lg (hol2 d (mGE hd));obtain⟨b,us,rfl,hb,Y⟩:=td.tup_of;cases Y with
    | cons t1 Y =>
    cases Y with
    | cons t2 Y =>
    cases Y;rw[t1.str_of,t2.int_of] at hb;exact⟨b,s,n,U,F.seqT hb,by rw[hd];rfl,by rw[hd];rfl⟩
   refine iD _ _ (ab λsv jj=>?_);rw[dU,bU];refine⟨_,U,a,_,0,_,U,U,s6.seqT K2,pI (j:=0) U,af,xf,U,.inr (s6.seqT Ir),_,U,by omega,by omega,λN hN=>?_⟩;have k7:=smu (o:=HO.lst []) hN;refine bj.by (bo (lo:=0) (n:=((xf.length:Int)).toNat)) (λi C Hi=>aA H6 Hi/\Hi N=some (.lst ((opn 0 (J.take i)).map V.int))/\∃ y,C=[y,some (.ref a)]) ⟨k7,pF,_,U⟩ (λ_ _ _ _ _=>trivial) ?_ ?_
   · rintro i x C Hi Ih ⟨B,hNi,y,rfl⟩;obtain⟨rfl,hi⟩:=p8 Ih;rw[Int.toNat_natCast] at hi;have hxi':=gEE hi;obtain⟨fd,hd,td⟩:=IB.get hxi';generalize xf[i]=xi at hxi' td;obtain⟨s,n,b,rfl,hs,_⟩:=eI (hfn fd (mGE hd));obtain⟨c,us,rfl,hc,Y⟩:=td.tup_of;cases Y with
     | cons t1 Y =>
     rw[t1.str_of] at hc;have s7:=s6.trans B;rw[Int.zero_add,aL];refine⟨_,U,a,_,0,_,U,U,s7.seqT K2,pI (j:=0) U,_,U,af,_,_,_,U,U,s7.seqT Ir,pI hxi',c,_,0,_,U,U,s7.seqT hc,pI (j:=0) U,U,_,U,?_⟩;have hsn:=oU hd;have eh:bu (.tuple [.str s,.int n,b])=s:=rfl;rw[eh] at hsn;by_cases e5:s="open"
     · rw[if_pos e5] at hsn;refine pK (by simp[e5]) ⟨_,U,_,hNi,?_,aK B hN,?_,_,U⟩
       · rw[lMp];have:=(lf (J.take i) 0).2.2;rw[lTk] at this;omega
       · rw[pF,hsn,List.map_append];rfl
     · rw[if_neg e5,List.append_nil] at hsn;exact pJ (by simp[e5]) ⟨B,by rw[hsn];exact hNi,_,U⟩
   rintro C H7 ⟨k7',hN7,y,rfl⟩;have s7:=s6.trans k7';clear k7;unfold L2.bN at hN7;rw[lMp,List.length_range,Int.toNat_natCast,hfl,List.take_length] at hN7;rw[aL];refine jj _ _ (ab λyn mD=>?_);rw[dU,bU];refine⟨_,U,a,_,2,_,U,U,s7.seqT K2,pI (j:=2) U,ao,U,⟨_,s7.seqT hao⟩,λUz hU=>?_⟩;refine sZ (K:=K) (λC=>∃ y,C=[y]) (λi=>V.str (nmD (g[i]?.getD .none))) (s7.seqT hao) hU ?A ⟨_,U⟩ ?_ ?_
   · rintro i x C u R Ih ⟨y,rfl⟩ F r;obtain⟨b,s,n,rfl,hb,e3,e4⟩:=two (s7.trans F) Ih;rw[e3] at r;rw[aL];exact⟨_,U,b,_,0,_,U,U,hb,pI (j:=0) U,r _ _ ⟨_,U⟩ (aA.refl _)⟩
   intro H8 k8 hU8;have s8:=s7.trans k8;rw[hol,i6] at hU8;refine mD _ _ (ab λBX qX=>?_);rw[nz,DT,nu,kU,ie,dq,bU];refine⟨_,U,a,_,2,_,U,U,s8.seqT K2,pI (j:=2) U,ao,U,⟨_,s8.seqT hao⟩,λW hW=>?_⟩;refine sZ (K:=K) (λC=>∃ y,C=[y]) (λi=>V.int (nrD (g[i]?.getD .none))) (s8.seqT hao) hW ?A ⟨_,U⟩ ?_ ?_
   · rintro i x C u R Ih ⟨y,rfl⟩ F r;obtain⟨b,s,n,rfl,hb,e3,e4⟩:=two (s8.trans F) Ih;rw[e4] at r;rw[aL];exact⟨_,U,b,_,1,_,U,U,hb,pI (j:=1) U,r _ _ ⟨_,U⟩ (aA.refl _)⟩
   intro H9 k9 hW9;have s9:=s8.trans k9;rw[hol,i6] at hW9;refine⟨W,g.map nrD,U,SqL.of hW9,by rw[lMp];omega,λZ zs hZ zp zso=>?_⟩;have k10:=smu (o:=HO.lst (zs.map V.int)) hZ;have hZ10:(upd H9 Z (.lst (zs.map V.int))) Z=some (.lst (zs.map V.int)):=pF;generalize upd H9 Z (.lst (zs.map V.int))=JY at k10 hZ10 ⊢;have s10:=s9.trans k10;have hN10:=k10 _ _ (k9 _ _ (k8 _ _ hN7));have hU10:=k10 _ _ (k9 _ _ hU8);refine⟨_,U,_,_,zS (SqL.of hZ10),zS (SqL.of hN10),shI _,shI _,_,U,?_⟩;rw[show PyData.eqv (.list (zs.map .int)) (.list ((opn 0 J).map .int))=decide (zs=opn 0 J) from Ci _ _];by_cases en:zs=opn 0 J
   case neg =>
    rw[decide_eq_false en];exact aJ (aJ (no s10 λz=>en (oS zso (lf J 0).1 (zp.trans z.ops.nr))))
   rw[decide_eq_true en];refine aP ?_;refine⟨_,U,_,U,Uz,g.map nmD,U,SqL.of hU10,by rw[lMp];omega,λS ys hS yp yso=>?_⟩;have k11:=smu (o:=HO.lst (ys.map V.str)) hS;have hS11:(upd JY S (.lst (ys.map V.str))) S=some (.lst (ys.map V.str)):=pF;generalize upd JY S (.lst (ys.map V.str))=JO at k11 hS11 ⊢;have s11:=s10.trans k11;have hU11:=k11 _ _ hU10;have Iz:∀ x∈ys,bD x=true:=λx IG=>hnm x (yp.mem_iff.mp IG);have hrow:=uh yp yso;refine⟨_,_,zR (SqL.of hU11),zR (SqL.of hS11),shS hnm,shS Iz,_,U,?_⟩;rw[show PyData.eqv (.list ((g.map nmD).map .str)) (.list (ys.map .str))=decide (g.map nmD=ys) from Fh _ _];by_cases e2:g.map nmD=ys
   case neg =>
    rw[decide_eq_false e2];exact aJ (no s11 λz=>e2 (hrow.mpr ⟨z.ops.nm,z.ops.nd⟩).1)
   rw[decide_eq_true e2];refine aP (qX _ _ ?_);rw[gr,kU,bU];refine⟨_,U,Uz,_,U,.inl (SqL.of hU11),1,_,U,⟨by decide,by decide,by rw[lMp,lMp];omega,by rw[lMp,lMp];omega⟩,λG hG=>?_⟩;have k12:=smu (o:=HO.lst []) hG;rw[lMp,lMp];refine bj.by (bo (lo:=1) (n:=((g.length:Int)-1).toNat)) (λi C Hi=>aA JO Hi/\(∃ us:List V,Hi G=some (.lst us)/\us.length<=i/\(us.isEmpty=true↔∀ j a b,j<i->(g.map nmD)[j]?=some a->(g.map nmD)[j+1]?=some b->b≠a))/\∃ y,C=[y,some (.ref Uz)]) ⟨k12,⟨[],pF,Nat.le_refl _,⟨λ_ j _ _ z=>absurd z (Nat.not_lt_zero _),λ_=>rfl⟩⟩,_,U⟩ (λ_ _ _ _ _=>trivial) ?_ ?_
   · rintro i x C Hi Ih ⟨B,⟨us,hGi,hul,JI⟩,y,rfl⟩;obtain⟨rfl,hi⟩:=p8 Ih;have hU:=B _ _ hU11;have g0:(g.map nmD)[i]?=some (nmD (g[i]' ?A)):=by rw[gEM,gEE ?A];rfl
     have g1:(g.map nmD)[i+1]?=some (nmD (g[i+1]' ?A)):=by rw[gEM,gEE ?A];rfl
     generalize nmD (g[i]' ?A)=n0 at g0;generalize nmD (g[i+1]' ?A)=n1 at g1;have v0:((g.map nmD).map V.str)[i]?=some (.str n0):=by rw[gEM,g0];rfl
     have v1:((g.map nmD).map V.str)[i+1]?=some (.str n1):=by rw[gEM,g1];rfl
     have a0:atI ((g.map nmD).map V.str) (1+(i:Int)-1)=some (.str n0):=by rw[show (1+(i:Int)-1)=?J by omega];exact pI v0
     have a1:atI ((g.map nmD).map V.str) (1+(i:Int))=some (.str n1):=by rw[show (1+(i:Int))=((i+1:Nat):Int) by omega];exact pI v1
     have hstep:(∀ j a b,j<i+1->(g.map nmD)[j]?=some a->(g.map nmD)[j+1]?=some b->b≠a)↔(us.isEmpty=true/\n1≠n0):=by
      rw[JI];constructor
      · intro z;exact⟨λj a b hj=>z j a b ?A,z i n0 n1 ?A g0 g1⟩
      · rintro⟨z1,z2⟩ j a b hj ha hb;by_cases e:j=i
        · subst e;rw[g0] at ha;rw[g1] at hb;cases ha;cases hb;exact z2
        · exact z1 j a b ?A ha hb
     rw[aL];refine⟨_,U,_,U,Uz,_,_,_,U,U,SqL.of hU,a1,_,U,_,U,_,_,U,U,Uz,_,_,_,U,U,SqL.of hU,a0,U,_,U,?_⟩;by_cases e5:n1=n0
     · refine pK (by simp[e5]) ⟨_,U,us,hGi,by omega,aK B hG,⟨_,pF,?_,?_⟩,_,U⟩
       · rw[lAp,List.length_singleton];omega
       · rw[hstep];exact⟨λz=>(by cases us <;> cases z),λz=>absurd e5 z.2⟩
     · exact pJ (by simp[e5]) ⟨B,⟨us,hGi,by omega,by rw[hstep];exact⟨λz=>⟨z,e5⟩,λz=>z.1⟩⟩,_,U⟩
   rintro C H12 ⟨s12,⟨us,hG12,_,JI⟩,y,rfl⟩;have s13:=s11.trans s12;refine⟨jl,λM hM=>?_⟩;have k13:=smu (o:=HO.lst []) hM;refine⟨G,M,us,U,U,SqL.of (k13 _ _ hG12),SqL.of pF,?_⟩;unfold L2.bN at JI;rw[lMp,List.length_range] at JI;have HP:us.isEmpty=true↔∀ j a b,(g.map nmD)[j]?=some a->(g.map nmD)[j+1]?=some b->b≠a:=by
    rw[JI];refine⟨λz j a b h1 h2=>z j a b ?_ h1 h2,λz j a b _=>z j a b⟩;have:=(gES.mp h2).1;rw[lMp] at this;omega
   refine q _ _ (s13.trans k13) ⟨λz=>⟨J,rs,g,U,h40,hfn,e2',λo Ii=>?_,?_⟩,λz=>?_⟩
   · obtain⟨s,n,rfl,hn⟩:=lg (hol2 o Ii);exact wC hn
   · have h9:=hrow.mp ⟨e2,HP.mp z⟩;exact⟨h9.1,h9.2,by rw[<- en];exact zp.symm⟩
   · obtain⟨_,_,_,ed,hF⟩:=z;cases ed;exact HP.mpr (hrow.mpr ⟨hF.ops.nm,hF.ops.nd⟩).2
end
def bz (g:Wk->PyData->Option Wk):PDs->Wk->Option Wk
  | [],w=>some w
  | x::r,w=>(g w x).bind (bz g r)
def jD {g:Kn->Nat->Wk->PyData->Option Wk} {kn:Kn} {n:Nat}:∀ (ks:PDs) (w:Wk),fY g kn n kn n ks w=bz (g kn n) ks w
 | [],w=>rfl
 | [x],w=>by
  show g kn n w x=(g kn n w x).bind (bz (g kn n) []);cases g kn n w x <;> rfl
 | x::y::r,w=>by
  show (g kn n w x).bind (fY g kn n kn n (y::r))=(g kn n w x).bind (bz (g kn n) (y::r));congr 1
  funext w'
  exact jD (y::r) w'
def mL {g:Kn->Nat->Wk->PyData->Option Wk} {kn kn':Kn} {n n':Nat} (x:PyData):∀ (ks:PDs) (w:Wk),fY g kn n kn' n' (ks++[x]) w=(bz (g kn n) ks w).bind λw'=>g kn' n' w' x
 | [],w=>rfl
 | [y],w=>by
  show (g kn n w y).bind (fY g kn n kn' n' [x])=((g kn n w y).bind (bz (g kn n) [])).bind _;cases g kn n w y <;> rfl
 | y::z::r,w=>by
  show (g kn n w y).bind (fY g kn n kn' n' (z::r++[x]))=((g kn n w y).bind (bz (g kn n) (z::r))).bind _;rw[Option.bind_assoc];congr 1
  funext w'
  exact mL x (z::r) w'
section
variable {C:Cfg} {m:Nat} {kn:Kn} {n:Nat} {w:Wk}
def GE (a:cZ d=[]) (b:eV d=[]):nxt w d=w:=by
 unfold nxt;rw[a,b,List.append_nil];show (w.1+0,w.2)=w;rw[Int.add_zero]
def zJ (h:cB d=false):fit C m kn n w d=none:=by
 cases m with
 | zero=>rfl
 | succ m=>rw[fit];unfold eP;rw[h];rfl
def bZ (a:cZ d=[]) (f:eV d=[]) (g:(cB d&&gy C kn n d)=b) (c:iZ d n=n) (e:bw d=ks):fit C (m+1) kn n w d=if b=true then bz (fit C m kn n) ks w else none:=by
 rw[fit,GE a f,c];unfold lQ eP;rw[a,g,e];show (if (b&&decide ([]=[]))=true then fY (fit C m) kn n kn n ks w else none)=_;rw[jD,decide_eq_true U,Bool.and_true]
variable {p q r:PyData}
def lv:fit C (m+1) kn n w (.tuple [.str "number",p])=if wIn (-32768) 32767 p=true then some w else none :=
 bZ rfl rfl (by show (true&&(cf "number" p&&true)&&true)=_;rw[Bool.and_true,Bool.and_true,Bool.true_and];rfl) rfl rfl
def mG:fit C (m+1) kn n w (.tuple [.str "fault",p])=if fW p=true then some w else none :=
 bZ rfl rfl (by show (true&&(cf "word" p&&true)&&true)=_;rw[Bool.and_true,Bool.and_true,Bool.true_and];rfl) rfl rfl
def sN:fit C (m+1) kn n w (.tuple [.str "say",p])=bz (fit C m kn n) [p] w:=bZ rfl rfl rfl rfl rfl
def mF:fit C (m+1) kn n w (.tuple [.str "while",p,q])=bz (fit C m kn n) [p,q] w:=bZ rfl rfl rfl rfl rfl
def xv:fit C (m+1) kn n w (.tuple [.str "if",p,q,r])=bz (fit C m kn n) [p,q,r] w:=bZ rfl rfl rfl rfl rfl
def nY:fit C (m+1) kn n w (.tuple [.str "do",p])=if (isT p&&decide (0<(items p).length))=true then bz (fit C m kn n) (items p) w else none :=
 bZ rfl rfl (by show (true&&(cf "many" p&&true)&&_)=_;rw[Bool.and_true,Bool.true_and];rfl) rfl (List.append_nil _)
def lx:fit C (m+1) kn n w (.tuple [.str "name",p])=if (isW p&&eM kn n (aY p))=true then some w else none :=
 bZ rfl rfl (by show (true&&(cf "meant" p&&true)&&_)=_;rw[Bool.and_true,Bool.true_and];rfl) rfl rfl
def nU:fit C (m+1) kn n w (.tuple [.str "set",p,q])=if (isW p&&iM kn n (aY p))=true then bz (fit C m kn n) [q] w else none :=
 bZ rfl rfl (by show (true&&(cf "meant" p&&(true&&true))&&_)=_;rw[Bool.and_true,Bool.and_true,Bool.true_and];rfl) rfl rfl
def nW:fit C (m+1) kn n w (.tuple [.str "get",p,q,r])=if ((isW p&&isW q)&&(match plc C.R (aY p) with | some c=>decide (0<=aY q)&&decide (aY q<c) | none=>false))=true then bz (fit C m kn n) [r] w else none :=
 bZ rfl rfl (by show (true&&(cf "place" p&&(cf "place" q&&(true&&true)))&&_)=_;rw[Bool.and_true,Bool.and_true,Bool.true_and];rfl) rfl rfl
def jC:fit C (m+1) kn n w (.tuple [.str "apply",p,q])=if isT q=true then bz (fit C m kn n) (p::items q) w else none :=
 bZ rfl rfl (by show (true&&(true&&(cf "many" q&&true))&&true)=_;rw[Bool.and_true,Bool.and_true,Bool.true_and,Bool.true_and];rfl) rfl (by show [p]++(items q++[])=_;rw[List.append_nil];rfl)
def nV:fit C (m+1) kn n w (.tuple [.str "op",p,q])=if ((opD p&&isT q)&&(match p with | .str s=>opN s (items q).length | _=>false))=true then bz (fit C m kn n) (items q) w else none :=
 bZ rfl rfl (by show (true&&(cf "op" p&&(cf "many" q&&true))&&_)=_;rw[Bool.and_true,Bool.true_and];rfl) rfl (List.append_nil _)
def kJ:fit C (m+1) kn n w (.tuple [.str "new",p,q])=if ((isW p&&isT q)&&(match plc C.R (aY p) with | some c=>decide (((items q).length:Int)=c) | none=>false))=true then bz (fit C m kn n) (items q) w else none :=
 bZ rfl rfl (by show (true&&(cf "place" p&&(cf "many" q&&true))&&_)=_;rw[Bool.and_true,Bool.true_and];rfl) rfl (List.append_nil _)
def j7:fit C (m+1) kn n w (.tuple [.str "call",p,q])=if ((isW p&&isT q)&&(match plc C.F (aY p) with | some (h,c)=>!(decide (h="open"))&&decide (c=((items q).length:Int)) | none=>false))=true then bz (fit C m kn n) (items q) (w.1,w.2++[aY p]) else none:=by
 rw[fit];have b:eP C kn n w.1 (.tuple [.str "call",p,q])=((isW p&&isT q)&&(match plc C.F (aY p) with | some (h,c)=>!(decide (h="open"))&&decide (c=((items q).length)) | none=>false)):=by
  show ((true&&(cf "place" p&&(cf "many" q&&true))&&_)&&decide ([]=[]))=_;rw[Bool.and_true,Bool.true_and,decide_eq_true U,Bool.and_true];rfl
 have a:nxt w (.tuple [.str "call",p,q])=(w.1,w.2++[aY p]):=by show (w.1+0,w.2++[aY p])=_;rw[Int.add_zero]
 have d:bw (.tuple [.str "call",p,q])=items q:=List.append_nil _;rw[b,a,d];show (if _ then fY (fit C m) kn n kn n _ _ else none)=_;rw[jD]
def sP (a:h∈lve):fit C (m+1) kn n w (.tuple [.str h,p,q,r])=if (isW p&&decide (aY p=w.1))=true then (bz (fit C m kn n) [q] (w.1+1,w.2)).bind λt=>fit C m (cS kn (decide (h="var")) n [aY p]) n t r else none:=by
 rw[fit];have f:eV (.tuple [.str h,p,q,r])=[]:=by unfold eV;rw[if_neg];intro z;rw[show bu (.tuple [.str h,p,q,r])=h from rfl] at z;subst z;revert a;decide
 have b:cZ (.tuple [.str h,p,q,r])=[p]:=if_pos a;have e:lkT tbl h=some (["bound","one","one"]:List Str):=by
  ext e
  · rfl
  ext e
  · rfl
  rw[mSg.mp a];rfl
 have k:gy C kn n (.tuple [.str h,p,q,r])=true:=by
  ext e
  · rfl
  ext e
  · rfl
  rw[mSg.mp a];rfl
 have d:iZ (.tuple [.str h,p,q,r]) n=n:=by
  ext e
  · rfl
  ext e
  · rfl
  rw[mSg.mp a];rfl
 have g:eP C kn n w.1 (.tuple [.str h,p,q,r])=(isW p&&decide (aY p=w.1)):=by
  unfold eP;rw[k,b];have:cB (.tuple [.str h,p,q,r])=isW p:=by
   show (match lkT tbl h with | none=>false | some c=>decide (3=c.length)&&(List.zipWith cf c [p,q,r]).all id)=_;rw[e];show (true&&(cf "bound" p&&(true&&(true&&true))))=_;rw[Bool.and_true,Bool.and_true,Bool.and_true,Bool.true_and];rfl
  rw[this,Bool.and_true];congr 1;show decide ([aY p]=[w.1+((0:Nat):Int)])=_;simp
 have j:nxt w (.tuple [.str h,p,q,r])=(w.1+1,w.2):=by unfold nxt;rw[b,f,List.append_nil];rfl
 have i:bw (.tuple [.str h,p,q,r])=[q]++[r]:=by
  show eQ ((lkT tbl h).getD []) [p,q,r]=_;rw[e];rfl
 rw[g,j,i,mL,d];unfold lQ;rw[b,d];rfl
def nX:fit C (m+1) kn n w (.tuple [.str "fun",p,q])=if (ik p&&decide ((items p).map aY=rgI w.1 (items p).length))=true then fit C m (cS kn false (n+1) ((items p).map aY)) (n+1) (w.1+(items p).length,w.2) q else none:=by
 rw[fit];have b:eP C kn n w.1 (.tuple [.str "fun",p,q])=(ik p&&decide ((items p).map aY=rgI w.1 (items p).length)):=by
  show ((true&&(cf "bounds" p&&(true&&true))&&true)&&_)=_;rw[Bool.and_true,Bool.and_true,Bool.and_true,Bool.true_and];rfl
 have a:nxt w (.tuple [.str "fun",p,q])=(w.1+(items p).length,w.2):=by show (_,w.2++[])=_;rw[List.append_nil];rfl
 rw[b,a];rfl
end
def nN (p:PyData):(items p).length<=wts (items p)/\wts (items p)<wt p:=by
 refine⟨cN _,?_⟩;cases p with
 | tuple l=>rw[aC];exact Nat.lt_succ_self _
 | _=>show wts []<_;rw[wts];exact fo _
def ue (h:cB d=true):(cZ d).length+(eV d).length+wts (bw d)<=wt d:=by
 obtain⟨j,g,k,rfl,c,f,a,_⟩:=eU h;clear h f;simp only[tbl,List.mem_cons,nMN,or_false,Prod.mk.injEq] at c
 rcases c with ⟨rfl,rfl⟩ | ⟨rfl,rfl⟩ | ⟨rfl,rfl⟩ | ⟨rfl,rfl⟩ | ⟨rfl,rfl⟩ | ⟨rfl,rfl⟩ | ⟨rfl,rfl⟩ | ⟨rfl,rfl⟩ | ⟨rfl,rfl⟩ | ⟨rfl,rfl⟩ | ⟨rfl,rfl⟩ | ⟨rfl,rfl⟩ | ⟨rfl,rfl⟩ | ⟨rfl,rfl⟩ | ⟨rfl,rfl⟩ | ⟨rfl,rfl⟩ | ⟨rfl,rfl⟩
 all_goals first
  | (obtain⟨p,rfl⟩:=dM a
     have e:=nN p
     first
     | (show 0+0+wts []<=_;rw[wts];exact Nat.zero_le _)
     | (show 0+0+wts [p]<=_;simp only[aC,wts];omega)
     | (show 0+0+wts (items p++[])<=_;simp only[List.append_nil,aC,wts];omega))
  | (obtain⟨p,q,rfl⟩:=f8 a
     have e:=nN p;have i:=nN q
     first
     | (show 0+0+wts [q]<=_;simp only[aC,wts];omega)
     | (show 0+0+wts [p,q]<=_;simp only[aC,wts];omega)
     | (show 0+0+wts (items q++[])<=_;simp only[List.append_nil,aC,wts];omega)
     | (show 0+1+wts (items q++[])<=_;simp only[List.append_nil,aC,wts];omega)
     | (show (items p).length+0+wts [q]<=_;simp only[aC,wts];omega)
     | (show 0+0+wts ([p]++(items q++[]))<=_;simp only[List.append_nil,List.singleton_append,aC,wts];omega))
  | (obtain⟨p,q,r,rfl⟩:=gG a
     have e:=fo p
     first
     | (show 0+0+wts [r]<=_;simp only[aC,wts];omega)
     | (show 1+0+wts [q,r]<=_;simp only[aC,wts];omega)
     | (show 0+0+wts [p,q,r]<=_;simp only[aC,wts];omega))
def j5:∀ {f:Nat} {kn:Kn} {n:Nat} {w c:Wk} {d:PyData},fit C f kn n w d=some c->w.1<=c.1/\c.1+c.2.length<=w.1+w.2.length+wt d:=by
 intro f
 induction f with
 | zero=>intro kn n w c d h;cases h
 | succ f k =>
  have p:∀ {i:PDs} {kn g:Kn} {n j:Nat} {w c:Wk},fY (fit C f) kn n g j i w=some c->w.1<=c.1/\c.1+c.2.length<=w.1+w.2.length+wts i:=by
   intro i kn g n j
   induction i with
   | nil=>intro w c h;cases h;rw[wts];omega
   | cons x l q =>
    intro w c h;cases l with
    | nil =>
     have:=k (show fit C f g j w x=some c from h);rw[wts,wts];omega
    | cons y l =>
     obtain⟨v,a,b⟩:=Option.bind_eq_some_iff.mp (show (fit C f kn n w x).bind (fY (fit C f) kn n g j (y::l))=some c from h);have m:=k a;have o:=q b;have e:wts (x::y::l)=wt x+wts (y::l):=by rw[wts]
     omega
  intro kn n w c d h;obtain⟨m,o⟩:=j6 h;have u:=p o;have t:=ue (iw m).1;have r:(nxt w d).1=w.1+(cZ d).length:=rfl;have s:(nxt w d).2.length=w.2.length+(eV d).length:=by show (w.2++eV d).length=_;rw[lAp]
  omega
def jE {C:Cfg} {f:Nat} {kn:Kn} {n:Nat}:∀ {ks:PDs} {w w':Wk},bz (fit C f kn n) ks w=some w'->w.1<=w'.1/\w'.1+w'.2.length<=w.1+w.2.length+wts ks
 | [],w,w',h=>by cases h;rw[wts];omega
 | x::r,w,w',h=>by
  obtain⟨w2,a,b⟩:=Option.bind_eq_some_iff.mp (show (fit C f kn n w x).bind (bz (fit C f kn n) r)=some w' from h);have h1:=j5 a;have h2:=jE b;rw[wts];omega
end K13
namespace L2
open PySem PySem.Spec PyProof.Rows
inductive FE (a:Addr) (y:V) (H:Hp) (Q:VK):Prop
  | mk (b:Addr) (kvs more:List (Key×V)) (h1:y=.ref b) (h2:a≠b) (h3:H a=some (.dK kvs)) (h4:H b=some (.dK more)) (h5:kvs.length+more.length<=sizeLine) (q:Q .non (upd H a (.dK (br kvs more)))):FE a y H Q
def G0 (td ty:TE):TE:=λσ H Q=>td σ H λx H1=>∃ a,x=.ref a/\IsD H1 a/\ty σ H1 λy H2=>FE a y H2 Q
section
variable {X:Cx} {o e:Expr} {HR gt:Pos} {td ty:TE}
def BF (C:PE X o td) (he:PE X e ty) (m:M1 X o "update" HR e gt):PE X (.Call (.Attribute o "update" HR) [e] [] gt) (G0 td ty):=by
 intro f s σ H Q I h;refine wpAny_Call_method m.base m.few m.line PySem.F.plainAttrs_dict PySem.F.slot_dict_update PySem.F.type_dict_update (thn (C f s σ H _ I h) λu Z p=>?_);obtain⟨x,Y,B,N,a,T,d,E⟩:=p;subst T;obtain rfl:u=Value.ref a:=N;obtain⟨W,O,_⟩:=nP B d;refine⟨W,O,?_⟩;rw[m.trees];refine Calls.callWith_builtin U (Calls.evalArgs_plain (Calls.spliced_cons (thn (he f Z σ Y _ B E) λiv s2 p=>?_)));obtain⟨y,H2,k,R,K⟩:=p;obtain⟨b,v,more,rfl,S,A,D,z,P⟩:=K;obtain rfl:iv=Value.ref b:=R;refine Calls.spliced_nil ?_;obtain⟨za,n,G,c,i⟩:=ij k.hok A;obtain⟨zb,l,L,g,r⟩:=ij k.hok D;refine call_meetsIn PySem.F.slot_dict_update i.typeIs PySem.F.entry_dict_update (PySem.F.args_dict_update_2 _ _) (meets_dict_update (aI X.prog X.w) a b S l)
  ⟨G,L,i,r,(by rw[<- c.length,<- g.length];exact z),λh' j _ J=>?_⟩
 have t:∃ q,h'.get? a=some q:=let ⟨q,_,_,hq,_⟩:=j;⟨q,hq⟩;have M:=eE more v;exact⟨.non,_,dG k (by rw[A];exact True.intro) J t (iE (Nat.le_trans M z) n (g.merge c) j),U,P⟩
end
end L2
namespace K13
open PySem L2 PySem.Spec PyProof.Rows PySem.SeqAt
def qP {α:Type} {l:List α} (h:l.length=5):∃ a b c d e,l=[a,b,c,d,e]:=by
 cases l with
 | nil=>cases h
 | cons a l =>
  obtain⟨b,c,d,e,rfl⟩:=qQ (Nat.succ.inj h);exact⟨a,b,c,d,e,U⟩
def off (wk wl:Addr) (H:Hp):Hp:=λb=>if b=wk\/b=wl then none else H b
section
variable {d e:Addr} {H f H1:Hp}
def dF:aA (off d e H) H:=λb o h=>by
 unfold off at h;split at h
 · cases h
 · exact h
def kT (s:aA f H) (c:f d=none) (a:f e=none):aA f (off d e H):=λb o h=>by
 unfold off;rw[if_neg]
 · exact s b o h
 · grind
def iu:off d e H d=none:=if_pos (.inl U)
def nJ:off d e H e=none:=if_pos (.inr U)
def dY (h:H b=some o) (a:b≠d) (c:b≠e):off d e H b=some o:=by
 unfold off;rw[if_neg]
 · exact h
 · grind
end
structure cL (H:Hp) (wk wl:Addr) (w:Wk):Prop where
  k:H wk=some (.lst [.int w.1,.ref wl])
  l:H wl=some (.lst (w.2.map V.int))
structure KnR (H:Hp) (kvs:List (Key×V)) (kn:Kn) (nx:Int):Prop where
  yes:∀ x v a,kn x=some (v,a)->∃ t,bd kvs (.inl x)=some (.ref t)/\H t=some (.tup [.bl v,.int ((a:Nat):Int)])/\0<=x/\x<nx
  no:∀ x,kn x=none->bd kvs (.inl x)=none
  few:(kvs.length:Int)<=nx
def KnR.same (h:KnR H kvs kn nx) (s:aA H H') (le:nx<=nx'):KnR H' kvs kn nx' :=
 ⟨λx v a e=>by obtain⟨t,b,d,c,f⟩:=h.yes x v a e;exact⟨t,b,s _ _ d,c,by omega⟩,h.no,Int.le_trans h.few le⟩
structure Ls (K:Fg) (H0 H:Hp) (vc:V) (fs rs os:PDs) (wk wl kd:Addr) (kvs:List (Key×V)) (kn:Kn) (w:Wk):Prop where
  s:aA H0 H
  z1:H0 wk=none
  z2:H0 wl=none
  ne:wk≠wl
  wa:cL H wk wl w
  core:BD K H0 vc (.tuple [.tuple fs,.tuple rs,.tuple os])
  okf:∀ f∈fs,fO f=true
  okr:∀ r∈rs,wIn 1 4 r=true
  kd_:H0 kd=some (.dK kvs)
  kn_:KnR H0 kvs kn w.1
  nn:0<=w.1
section
variable {K:Fg} {i H c:Hp} {j:V} {fs m n:PDs} {d g p:Addr} {kvs:List (Key×V)} {kn:Kn} {w q:Wk}
def Ls.go (h:Ls K i H j fs m n d g p kvs kn w) (s:aA i c) (a:cL c d g q) (le:w.1<=q.1):Ls K i c j fs m n d g p kvs kn q :=
 ⟨s,h.z1,h.z2,h.ne,a,h.core,h.okf,h.okr,h.kd_,h.kn_.same (aA.refl _) le,Int.le_trans h.nn le⟩
def Ls.so (h:Ls K i H j fs m n d g p kvs kn w) (s:aA H c):aA i (off d g c):=kT (h.s.trans s) h.z1 h.z2
def Ls.up (h:Ls K i H j fs m n d g p kvs kn w) (s:aA H c):Ls K (off d g c) c j fs m n d g p kvs kn w :=
 ⟨dF,iu,nJ,h.ne,⟨s _ _ h.wa.k,s _ _ h.wa.l⟩,h.core.same (h.so s),h.okf,h.okr,h.so s _ _ h.kd_,h.kn_.same (h.so s) (Int.le_refl _),h.nn⟩
def Ls.at_ (h:Ls K i H j fs m n d g p kvs kn w) (f:H b=none) (e:c b=some o):off d g c b=some o :=
 dY e (λz=>by rw[z,h.wa.k] at f;cases f) (λz=>by rw[z,h.wa.l] at f;cases f)
end
def lA {g:Wk->PyData->Option Wk}:∀ (a b:PDs) (w:Wk),bz g (a++b) w=(bz g a w).bind (bz g b)
 | [],b,w=>rfl
 | x::r,b,w=>by
  show (g w x).bind (bz g (r++b))=((g w x).bind (bz g r)).bind (bz g b);rw[Option.bind_assoc];congr 1
  funext w'
  exact lA r b w'
def px (x:PyData) (w:Wk):bz g [x] w=g w x:=by
 show (g w x).bind (bz g [])=_;cases g w x <;> rfl
def uB (a:bz g (ds.take i) w=some w1) (c:ds[i]?=some d) (b:g w1 d=none):bz g ds w=none:=by
 have h:=(gES.mp c);obtain⟨f,j⟩:=h;have e:ds=ds.take i++d::ds.drop (i+1):=by
  rw[<- j,<- List.drop_eq_getElem_cons f,List.take_append_drop]
 rw[e,lA,a];show (g w1 d).bind _=none;rw[b];rfl
section
variable {P:Program} {w:World} {K:Fg} {mg:SOV} {base:Heap}
abbrev psL:List Str:=["_law_e_here","_law_core_here","_law_walk","_law_known","_law_funs"]
abbrev psA:List Str:=["_law_es","_law_core_here","_law_walk","_law_known","_law_funs"]
inductive AV (m:Nat) (K:Fg) (vs:List V) (H:Hp) (Q:VK):Prop
  | mk (H0:Hp) (v vc:V) (d:PyData) (fs rs os:PDs) (wk wl kd:Addr) (kvs:List (Key×V)) (kn:Kn) (u:Wk) (n:Nat) (h0:vs=[v,vc,.ref wk,.ref kd,.int ((n:Nat):Int)])
    (h1:Ls K H0 H vc fs rs os wk wl kd kvs kn u) (h2:BD K H0 v d) (h3:dp d<=m) (h4:u.1+u.2.length+wt d<=200000)
    (q:∀ H',aA H0 H'->(∀ u',fit (aX fs rs) m kn n u d=some u'->cL H' wk wl u')->Q (.bl (fit (aX fs rs) m kn n u d).isSome) H'):AV m K vs H Q
def oK (m:Nat) (K:Fg):Sp:=λvs H Q _=>AV m K vs H Q
inductive y3 (m:Nat) (K:Fg) (vs:List V) (H:Hp) (Q:VK):Prop
  | mk (H0:Hp) (a:Addr) (vc:V) (xs:List V) (ds:PDs) (fs rs os:PDs) (wk wl kd:Addr) (kvs:List (Key×V)) (kn:Kn) (u:Wk) (n:Nat) (h0:vs=[.ref a,vc,.ref wk,.ref kd,.int ((n:Nat):Int)])
    (h1:Ls K H0 H vc fs rs os wk wl kd kvs kn u) (h2:SqT K H0 a xs) (h3:BDs K H0 xs ds) (h4:∀ d∈ds,dp d<=m) (h5:u.1+u.2.length+wts ds<=200000)
    (q:∀ H',aA H0 H'->(∀ u',bz (fit (aX fs rs) m kn n) ds u=some u'->cL H' wk wl u')->Q (.bl (bz (fit (aX fs rs) m kn n) ds u).isSome) H'):y3 m K vs H Q
def yM (m:Nat) (K:Fg):Sp:=λvs H Q _=>y3 m K vs H Q
abbrev sLl:Stmt:=top 54
def DH:aM ["_law_es","_law_core_here","_law_walk","_law_known","_law_funs","_law_e_here"] psA (ad sLl):=fsM
def Ez (D:Def K mg "_law_all" sLl) (dz:Fn P w K mg base "_law_fits" l psL (oK m K)):Fn P w K mg base "_law_all" (l+1) psA (yM m K):=by
 refine D.fn DH ?P (λ_ _ _ _ _ _ us hl=>by obtain⟨a,b,c,d,e,rfl⟩:=qP hl;rfl) (λf kb A M s H vs Q E hr h=>?_)
 · obtain⟨G,a,F,R,f,fs,v,Z,r,C,I,o,p,u,n,rfl,_⟩:=h;rfl
 · obtain⟨G,a,F,R,f,fs,v,Z,r,C,I,o,p,u,n,rfl,L,T,Y,IM,hsz,q⟩:=h;have nd:=DH.nd;refine⟨_,(pE (cu PassesOwn.never U (cI ?C) (ax (i:=5) nd U ?D)
 (pH (aE (aU (aQ (aB dz hr U (pA (pv 5) ?Z)))) ?O am)))
 ?O),?_⟩
   refine⟨_,U,a,U,⟨R,L.s.seqT T⟩,?_⟩;refine aV.by (cq) (λi σ k=>aA G k/\(∃ g,bz (fit (aX fs v) m p n) (f.take i) u=some g/\cL k r C g)/\∃ O,σ=[some (.ref a),some F,some (.ref r),some (.ref I),some (.int ((n:Nat))),O]) ⟨L.s,⟨u,U,L.wa⟩,_,U⟩ (λi σ k _ h=>h.1.seqT T) ?_ ?_
   · rintro i x σ k Ih ⟨N,⟨g,j,y⟩,O,rfl⟩;obtain⟨d,t,td⟩:=Y.get Ih;have B:=mGE t;have h1:=jE j;have h2:wts (f.take i)+wt d<=wts f:=by
      have e1:wts (f.take (i+1))=wts (f.take i)+wt d:=by rw[tAO,t,cx,Option.toList_some,wts,wts];omega
      have J:=cx (f.take (i+1)) (f.drop (i+1));rw[List.take_append_drop] at J;omega
     refine⟨_,U,_,U,_,U,_,U,_,U,G,x,F,d,fs,v,Z,r,C,I,o,p,g,n,U,L.go N y h1.1,td,IM d B,by omega,λH' S hw=>⟨_,U,?_⟩⟩;cases e:fit (aX fs v) m p n g d with
     | none =>
      have J:=uB j t e;rw[J] at q;exact aJ (q H' S λu' z=>(by cases z))
     | some W =>
      refine aP ⟨S,⟨W,?_,hw W e⟩,_,U⟩;rw[tAO,t,Option.toList_some,lA,j];show bz _ [d] g=_;rw[px];exact e
   · rintro σ k ⟨N,⟨g,j,y⟩,O,rfl⟩;rw[Y.length,List.take_length] at j;rw[j] at q;exact q k N λu' z=>by cases z;exact y
end
def qY (C:Cfg) (m:Nat) (kn:Kn) (n:Nat) (u:Wk) (ids qs:PDs) (x:PyData) (v:Bool) (n':Nat):Option Wk :=
  if (ids.all isW&&decide (ids.map aY=rgI u.1 ids.length))=true then (bz (fit C m kn n) qs (u.1+ids.length,u.2)).bind λu'=>fit C m (cS kn v n' (ids.map aY)) n' u' x else none
def xn (a:h∈lve):fit C (m+1) kn n u (.tuple [.str h,p,q,r])=qY C m kn n u [p] [q] r (decide (h="var")) n:=by
 rw[sP a];unfold qY;have e:([p].all isW&&decide ([p].map aY=rgI u.1 [p].length))=(isW p&&decide (aY p=u.1)):=by
  show ((isW p&&true)&&decide ([aY p]=[u.1+((0:Nat):Int)]))=_;simp
 rw[e];rfl
def xA {l:PDs} (h:l.length<=4):fit C (m+1) kn n u (.tuple [.str "fun",.tuple l,q])=qY C m kn n u l [] q false (n+1):=by
 rw[nX];unfold qY;have e:ik (.tuple l)=l.all isW:=by show (decide (l.length<=4)&&l.all isW)=_;rw[decide_eq_true h,Bool.true_and]
 rw[e];rfl
def pq (h:ik p=false):fit C (m+1) kn n u (.tuple [.str "fun",p,q])=none:=by
 rw[nX,h];rfl
def gJ (i:Int) (k:Nat):rgI i (k+1)=rgI i k++[i+((k:Nat):Int)]:=by unfold rgI;rw[List.range_succ,List.map_append];rfl
def i5 (i:Int) (k:Nat):(rgI i k).length=k:=by unfold rgI;rw[lMp,List.length_range]
def KnR.put (h:KnR H kvs kn nx) (s:∀ t bs,H t=some (.tup bs)->H' t=some (.tup bs)) (m:H' t=some (.tup [.bl v,.int ((a:Nat):Int)])) (l:0<=nx):
 KnR H' (cr kvs (.inl nx) (.ref t)) (lM kn v a nx) (nx+1):=by
 refine⟨λx g d e=>?_,λx e=>?_,?_⟩
 · unfold lM at e;rw[dh];by_cases z:x=nx
   · grind
   · rw[if_neg z] at e;obtain⟨j,c,i,f,k⟩:=h.yes x g d e;exact⟨j,by rw[if_neg (by intro y;cases y;exact z U)];exact c,s _ _ i,f,by omega⟩
 · unfold lM at e;by_cases z:x=nx
   · rw[if_pos z] at e;cases e
   · rw[if_neg z] at e;rw[dh,if_neg (by intro y;cases y;exact z U)];exact h.no x e
 · have:=bS kvs (.inl nx) (.ref t);have:=h.few;omega
section
variable {P:Program} {w:World} {K:Fg} {M:SOV} {base:Heap}
inductive AW (m:Nat) (K:Fg) (vs:List V) (H:Hp) (Q:VK):Prop
  | mk (H0:Hp) (v vc:V) (d:PyData) (fs rs os:PDs) (wk wl kd:Addr) (kvs:List (Key×V)) (kn:Kn) (u:Wk) (n:Nat) (h0:vs=[v,vc,.ref wk,.ref kd,.int ((n:Nat):Int)])
    (h1:Ls K H0 H vc fs rs os wk wl kd kvs kn u) (h2:BD K H0 v d) (h3:dp d<=m+1) (h4:u.1+u.2.length+wt d<=200000)
    (h5:(∃ h p q r,h∈lve/\d=.tuple [.str h,p,q,r])\/∃ p q,d=.tuple [.str "fun",p,q])
    (q:∀ H',aA H0 H'->(∀ u',fit (aX fs rs) (m+1) kn n u d=some u'->cL H' wk wl u')->Q (.bl (fit (aX fs rs) (m+1) kn n u d).isSome) H'):AW m K vs H Q
def Dg (m:Nat) (K:Fg):Sp:=λvs H Q _=>AW m K vs H Q
abbrev sLb:Stmt:=top 56
abbrev nLb:List Str:=["_law_e_here","_law_core_here","_law_walk","_law_known","_law_funs","_law_ids","_law_inside","_law_inner","_law_one"]
def DJ:aM nLb psL (ad sLb):=fsM
def EC (D:Def K M "_law_fits_binder" sLb) (T:Blt K M) (bc:Fn P w K M W "_law_whole" 1 ["_law_thing","_law_least","_law_most"] (lK K)) (dz:Fn P w K M W "_law_fits" (l+1) psL (oK m K)) (cH:Fn P w K M W "_law_all" (l+2) psA (yM m K)):Fn P w K M W "_law_fits_binder" (l+3) psL (Dg m K):=by
 refine D.fn DJ ?P (λ_ _ _ _ _ _ us hl=>by obtain⟨a,b,c,d,e,rfl⟩:=qP hl;rfl) ?X
 · obtain⟨H0,v,vc,d,fs,rs,os,g,B,kd,F,kn,u,n,rfl,_⟩:=h;rfl
 · obtain⟨H0,v,vc,d,fs,rs,os,g,B,kd,F,kn,u,n,rfl,L,td,IM,hsz,IH,q⟩:=h;have nd:=DJ.nd;have hu:=dN hr;ext d
   refine⟨_,(pE (pN (i:=5) nd U ?D (aN (pA ?I pC)))
 (pE (pN (i:=6) nd U ?D (pv 4))
 (pE (aE (pP aZ ?I pD (pQ _)) (pE (pN (i:=5) nd U ?D ?I)
 (pE (pN (i:=6) nd U ?D (aT bY (pv 4) pG))
 (pH (aE (PW.pt (bF (aU (aQ (bO T.isinstance (pA (pv 5) (pA (ba (v:=.ty "tuple") U T.tuple bG U) pC))))) (bJ (pP ig (bq T.len (pA (pv 5) pC)) pG (pQ _))))) ?O am)))) am)
 (pE (pN (i:=7) nd U ?D (tK T.dict (pA (pv 3) pC)))
 (pE (cu PassesOwn.never U (cI (pv 5)) (ax (i:=8) nd U ?D)
 (pE (aE (aU (aQ (aB bc (hr.mono ?A) U (pA (pv 8) (pA (aj b8 (pv 2) pG ?H) (pA (aj b8 (pv 2) pG ?H) pC)))))) ?O am)
 (pE (gL (aT bY (aj b8 (pv 2) pG ?H) pG) (BB (pv 2) pG vG))
 (pH (dr hu (pv 7) (pv 8) (aN (pA (bL aZ ?I pD (pQ _)) (pA (pv 6) pC))) U)))))
 (pH (ak (cJ (aB cH (hr.mono ?A) U (pA (cF eA ?C (cC pG) (cC (iT g9 pG))) ?Z)) (de (aB dz (hr.mono ?A) U (pA (aj ae ?C (iT g9 pG) ?H) (pA ?E (pA (pv 2) (pA (pv 7) (pA (pv 6) pC))))))))))))))),?_⟩
   ext b;obtain⟨h,p,tl,rfl⟩:∃ h p tl,d=.tuple (.str h::p::tl):=by
    rcases IH with ⟨h,p,q,r,_,rfl⟩ | ⟨p,q,rfl⟩
    · exact⟨_,_,_,U⟩
    · exact⟨_,_,_,U⟩
   obtain⟨a,xs0,rfl,ha,hx⟩:=td.tup_of;obtain⟨O,xt,rfl,tp,ht⟩:∃ O xt,xs0=.str h::O::xt/\BD K H0 O p/\BDs K H0 xt tl:=by
    cases hx with
    | cons t0 hx =>
    cases hx with
    | cons t1 hx =>
    rw[t0.str_of];exact⟨_,_,U,t1,hx⟩
   clear hx;have haH:=L.s.seqT ha;have HY:fit (aX fs rs) (m+1) kn n u (.tuple (.str h::p::tl))=none->∀ H',aA H0 H'->Q (.bl false) H':=λe H' s'=>by
    rw[e] at q;exact q H' s' λu' z=>(by cases z)
   refine ab λjP f9=>?_;refine⟨_,U,a,_,1,_,U,U,haH,pI (j:=1) U,v3,λt hT=>?_⟩;have k1:=smu (o:=HO.tup [O]) hT;have hT1:(upd H t (.tup [O])) t=some (.tup [O]):=pF;generalize upd H t (.tup [O])=H1 at k1 hT1 ⊢;refine f9 _ _ (ab λjx fC=>?_);refine⟨_,U,fC _ _ (ab λmy gH=>?_)⟩;have bT:∀ (a5:Addr) (R:List V) (f qs:PDs) (x:PyData) (xq:List V) (xx:V) (Y:Nat) (z':Int),z'=((Y:Nat):Int)->SqT K H1 a5 R->BDs K H0 R f->fit (aX fs rs) (m+1) kn n u (.tuple (.str h::p::tl))=qY (aX fs rs) m kn n u f qs x (decide (h="var")) Y ->
    gP (.str h::O::xt) (some 2) (some (-1))=xq->xq.length<(V.str h::O::xt).length->BDs K H0 xq qs->atI (.str h::O::xt) (-1)=some xx->BD K H0 xx x->(∀ y∈qs,dp y<=m)->dp x<=m->f.length+wts qs+wt x<=wt (.tuple (.str h::p::tl))->(∀ y∈f,wt y<=200000) ->
    my [some (.ref a),some vc,some (.ref g),some (.ref kd),some (.int ((n:Nat):Int)),some (.ref a5),some (.int z'),none,none] H1:=by
    intro a5 R f qs x xq xx Y z' ez h5 h5d efit ecut ecl hq elast hxx hdq Kg hsz2 KC;subst ez;have nn:=L.nn;refine gH _ _ (ab λoX iD=>?_);have L1:=L.up k1;have so:=L.so k1;refine⟨_,U,kd,F,U,dF _ _ L1.kd_,λI hni=>?_⟩;have k2:=smu (o:=HO.dK F) hni;have hn2:(upd H1 I (.dK F)) I=some (.dK F):=pF;generalize upd H1 I (.dK F)=H2 at k2 hn2 ⊢;have Z:g≠I/\B≠I:=⟨λz=>(by have:=L1.wa.k;rw[z,hni] at this;cases this),λz=>(by have:=L1.wa.l;rw[z,hni] at this;cases this)⟩;have g2:aA (off g B H1) H2:=dF.trans k2;have h5g:SqT K (off g B H1) a5 R:=by
     rcases h5 with (e | ⟨o,e⟩) | e
     · exact .inl (.inl (dY e (λz=>(by rw[z,L1.wa.k] at e;cases e)) (λz=>(by rw[z,L1.wa.l] at e;cases e))))
     · exact .inl (.inr ⟨o,dY e (λz=>(by rw[z,L1.wa.k] at e;cases e)) (λz=>(by rw[z,L1.wa.l] at e;cases e))⟩)
     · exact .inr e
    refine iD _ _ (ab λsv jj=>?_);refine⟨_,U,a5,U,⟨R,g2.seqT h5g⟩,?_⟩;show aV _ _ _ _ _ _;refine aV.by (cq (xs:=R)) (λi σ Hi=>aA (off g B H1) Hi/\cL Hi g B (u.1+?J,u.2)/\(∃ G,Hi I=some (.dK G)/\KnR Hi G (cS kn (decide (h="var")) Y (rgI u.1 i)) (u.1+?J))/\((f.take i).all isW=true/\(f.take i).map aY=rgI u.1 i)/\∃ x8,σ=[some (.ref a),some vc,some (.ref g),some (.ref kd),some (.int ((n:Nat):Int)),some (.ref a5),some (.int ((Y:Nat):Int)),some (.ref I),x8])
     ⟨g2,⟨by show _=some (HO.lst [V.int (u.1+0),_]);rw[Int.add_zero];exact k2 _ _ L1.wa.k,k2 _ _ L1.wa.l⟩,⟨F,hn2,by show KnR _ _ kn (u.1+0);rw[Int.add_zero];exact L1.kn_.same g2 (Int.le_refl _)⟩,⟨U,U⟩,_,U⟩ (λi σ Hi _ h=>h.1.seqT h5g) ?_ ?_
    · rintro i y σ Hi JM ⟨gi,wi,⟨G,hni',Ke⟩,⟨HP,C⟩,x8,rfl⟩;obtain⟨d1,S,tx⟩:=h5d.get JM;have hil:=(gES.mp S).1;have s0i:=so.trans gi;rw[aL];refine ab λBZ Ik=>?_;refine⟨_,U,_,U,g,_,0,_,U,U,SqL.of wi.k,pI (j:=0) U,_,U,g,_,0,_,U,U,SqL.of wi.k,pI (j:=0) U,y,d1,u.1+?J,u.1+?J,U,tx.same s0i,by have:=KC d1 (mGE S);omega,λH3 s3=>⟨_,U,?_⟩⟩;have s3i:=s0i.trans s3;cases e:wIn (u.1+?J) (u.1+?J) d1 with
      | false =>
       refine aJ (HY ?_ _ s3i);rw[efit];unfold qY;rw[if_neg];intro z;rw[Bool.and_eq_true] at z;have z1:=dJ.mp z.1 d1 (mGE S);obtain⟨j,rfl⟩:=cV z1;have z2:(f.map aY)[i]?=(rgI u.1 f.length)[i]?:=by rw[of_decide_eq_true z.2]
       rw[gEM,S] at z2;unfold rgI at z2;rw[gEM,List.getElem?_range hil] at z2;have z3:j=u.1+?J:=Option.some.inj z2;rw[z3] at e;have e':(decide (u.1+?J<=u.1+?J)&&decide (u.1+?J<=u.1+?J))=false:=e;rw[decide_eq_true (Int.le_refl _)] at e';cases e'
      | true =>
      have ed:d1=.int (u.1+?J):=by
       cases d1 <;> first | exact absurd (show false=true from e) Bool.false_ne_true | skip
       rename_i j
       have e':(decide (u.1+?J<=j)&&decide (j<=u.1+?J))=true:=e;rw[Bool.and_eq_true] at e';have:=of_decide_eq_true e'.1;have:=of_decide_eq_true e'.2;congr 1;omega
      subst ed;obtain rfl:=tx.int_of;have w3:cL H3 g B (u.1+?J,u.2):=⟨s3 _ _ wi.k,s3 _ _ wi.l⟩;refine aP (Ik _ _ (ab λFP IZ=>?_));refine⟨_,U,g,_,0,_,U,U,SqL.of w3.k,pI (j:=0) U,_,_,U,U,_,U,g,_,0,0,U,U,w3.k,U,?_⟩;have hn3:=s3 _ _ hni';have g3:=gi.trans s3;have hH4:(upd H3 g (.lst ([V.int (u.1+?J),V.ref B].set 0 (.int (u.1+?J+1))))) g=some (.lst [.int (u.1+?J+1),.ref B]):=pF;have J:∀ b,b≠g->(upd H3 g (.lst ([V.int (u.1+?J),V.ref B].set 0 (.int (u.1+?J+1))))) b=H3 b:=λb hb=>ai hb;generalize upd H3 g (.lst ([V.int (u.1+?J),V.ref B].set 0 (.int (u.1+?J+1))))=H4 at hH4 J ⊢;have g4:aA (off g B H1) H4:=λb o hb=>by
       rw[J b (λz=>by rw[z,iu] at hb;cases hb)];exact g3 b o hb
      have hn4:H4 I=some (.dK G):=by rw[J I (Ne.symm Z.1)];exact hn3
      have hl4:H4 B=some (.lst (u.2.map V.int)):=by rw[J B (Ne.symm L.ne)];exact w3.l
      have t4:∀ t bs,Hi t=some (.tup bs)->H4 t=some (.tup bs):=λt bs e=>by
       rw[J t (λz=>by rw[z,wi.k] at e;cases e)];exact s3 _ _ e
      refine IZ _ _ ?_;refine⟨_,U,a,_,0,_,U,U,(so.trans g4).seqT ha,pI (j:=0) U,U,_,U,jk,λtn htn=>⟨_,U,_,U,I,_,U,gY.k (k:=.inl (u.1+?J)) ((smu htn) _ _ hn4) ?_,?_⟩⟩
      · have:=Ke.few;have:f.length<=wt (.tuple (.str h::p::tl)):=by omega
        omega
      have k5:=smu (o:=HO.tup [V.bl (decide (V.str h=V.str "var")),V.int ((Y:Nat):Int)]) htn;have ht5:(upd H4 tn (.tup [V.bl (decide (V.str h=V.str "var")),V.int ((Y:Nat):Int)])) tn=some (.tup [V.bl (decide (V.str h=V.str "var")),V.int ((Y:Nat):Int)]):=pF;generalize upd H4 tn (.tup [V.bl (decide (V.str h=V.str "var")),V.int ((Y:Nat):Int)])=H5 at k5 ht5 ⊢;have g5:=g4.trans k5;have w5k:=k5 _ _ hH4;have w5l:=k5 _ _ hl4;have eb:decide (V.str h=V.str "var")=decide (h="var"):=by simp
      rw[eb] at ht5;have ei:u.1+(((i+1:Nat)):Int)=u.1+?J+1:=by omega
      have h6:(upd H5 I (.dK (cr G (.inl (u.1+?J)) (.ref tn)))) I=some (.dK (cr G (.inl (u.1+?J)) (.ref tn))):=pF;have o6:∀ b,b≠I->(upd H5 I (.dK (cr G (.inl (u.1+?J)) (.ref tn)))) b=H5 b:=λb hb=>ai hb;have g6:aA (off g B H1) (upd H5 I (.dK (cr G (.inl (u.1+?J)) (.ref tn)))):=aK g5 (by
        unfold off;split
        · rfl
        · exact hni)
      have n5:=k5 _ _ hn4;generalize upd H5 I (.dK (cr G (.inl (u.1+?J)) (.ref tn)))=H6 at h6 o6 g6 ⊢;have t6:∀ t bs,H5 t=some (.tup bs)->H6 t=some (.tup bs):=λt bs e=>by
       rw[o6 t (λz=>by rw[z,n5] at e;cases e)];exact e
      refine⟨g6,⟨?_,?_⟩,⟨_,h6,?_⟩,⟨?_,?_⟩,_,U⟩
      · rw[o6 g Z.1,w5k];show _=some (HO.lst [V.int (u.1+(((i+1:Nat)):Int)),_]);rw[ei]
      · rw[o6 B Z.2];exact w5l
      · rw[gJ,kX,ei];exact Ke.put (λt bs e=>t6 t bs (k5 _ _ (t4 t bs e))) (t6 _ _ ht5) ?A
      · rw[tAO,S,List.all_append,HP];rfl
      · rw[tAO,S,List.map_append,C,gJ];rfl
    · rintro σ H5 ⟨g5,w5,⟨kvN,hn5,hkN⟩,⟨HP,C⟩,x8,rfl⟩;rw[h5d.length] at HP C w5 hkN;rw[List.take_length] at HP C;have hcond:(f.all isW&&decide (f.map aY=rgI u.1 f.length))=true:=by rw[HP,decide_eq_true C];rfl
      rw[efit] at q;unfold qY at q;rw[if_pos hcond] at q;have L5:Ls K H0 H5 vc fs rs os g B kd F kn (u.1+f.length,u.2):=L.go (so.trans g5) w5 (by show u.1<=u.1+_;omega);refine jj _ _ ?_;rw[gr];refine⟨_,U,?_⟩;rw[dD];refine⟨2,U,?_⟩;rw[dD];refine⟨1,U,_,U,?_⟩;refine⟨a,_,U,(so.trans g5).seqT ha,λz=>(by rw[show (-(1:Int))=-1 from rfl,ecut] at z;rw[z] at ecl;exact absurd ecl (Nat.lt_irrefl _)),λps Jj=>?_⟩;rw[show gP (V.str h::O::xt) (some 2) (some (-1))=xq from ecut];have k6:=smu (o:=HO.tup xq) Jj;have K9:(upd H5 ps (.tup xq)) ps=some (.tup xq):=pF;generalize upd H5 ps (.tup xq)=H6 at k6 K9 ⊢;have so6:=L5.so k6;have hn6:off g B H6 I=some (.dK kvN):=dY (k6 _ _ hn5) (Ne.symm Z.1) (Ne.symm Z.2);have hk6:KnR (off g B H6) kvN (cS kn (decide (h="var")) Y (f.map aY)) (u.1+((f.length:Nat):Int)):=by
       rw[C];refine⟨λx v a e=>?_,hkN.no,hkN.few⟩;obtain⟨t,h1,h2,h3,h4⟩:=hkN.yes x v a e;exact⟨t,h1,dY (k6 _ _ h2) (λz=>(by rw[z,w5.k] at h2;cases h2)) (λz=>(by rw[z,w5.l] at h2;cases h2)),h3,h4⟩
      refine⟨_,U,_,U,_,U,_,U,off g B H6,ps,vc,xq,qs,fs,rs,os,g,B,kd,F,kn,_,n,U,L5.up k6,.inl (.inl (L5.at_ Jj K9)),hq.same so6,hdq,by show (u.1+((f.length:Nat):Int))+u.2.length+wts qs<=200000;omega,λH7 s7 hw7=>⟨_,U,?_⟩⟩;have s07:=so6.trans s7;cases e:bz (fit (aX fs rs) m kn n) qs (u.1+((f.length:Nat):Int),u.2) with
      | none =>
       rw[e] at q;exact aP (q H7 s07 λu' z=>(by cases z))
      | some u2 =>
       rw[e] at q;have hs2:=jE e;have hs2':u.1+((f.length:Nat):Int)<=u2.1/\u2.1+u2.2.length<=(u.1+((f.length:Nat):Int))+u.2.length+wts qs:=hs2;refine aJ ⟨_,U,1,U,a,_,-1,xx,U,U,s07.seqT ha,elast,_,U,_,U,_,U,_,U,off g B H6,xx,vc,x,fs,rs,os,g,B,I,kvN,_,u2,Y,U,⟨s7,iu,nJ,L.ne,hw7 u2 e,L.core.same so6,L.okf,L.okr,hn6,hk6.same (aA.refl _) hs2'.1,by omega⟩,hxx.same so6,Kg,by omega,λH8 s8 hw8=>q H8 (so6.trans s8) hw8⟩
   refine⟨_,U,a,_,0,_,U,U,k1.seqT haH,pI (j:=0) U,U,_,U,?_⟩
   rcases IH with ⟨h',p',q',r',hh,ed⟩ | ⟨p',q',ed⟩
   · cases ed;have Il:h≠"fun":=by rintro rfl;revert hh;decide
     refine pJ (by simp[Il]) ?_;cases ht with
     | cons t2 ht =>
     cases ht with
     | cons t3 ht =>
     cases ht;rw[aC,wts,wts,wts,wts,wts] at hsz;rw[dp,dps,dps,dps,dps,dps] at IM;have:=fo p;have:=fo (.str h);have:=L.nn;refine bT t [O] [p] [q'] r' _ _ n _ U (.inl (.inl hT1)) (.cons tp .nil) (xn hh) rfl (by show 1<4;decide) (.cons t2 .nil) rfl t3 (λy hy=>by rw[mSg.mp hy];omega) ?A ?_ (λy hy=>by rw[mSg.mp hy];omega);rw[aC,wts,wts,wts,wts,wts,wts,wts];show 1+_+_<=_;omega
   · cases ed;refine pK ?B ?_;cases ht with
     | cons t2 ht =>
     cases ht;refine⟨_,U,a,_,1,_,U,U,k1.seqT haH,pI (j:=1) U,_,U,_,_,U,U,_,U,O,p,_,U,tp.same (L.s.trans k1),iB,T.kit,_,U,?_⟩;cases ep:cA "tuple" p with
     | false =>
      have:ik p=false:=by cases p <;> first | rfl | cases ep
      exact aJ (aJ (HY (pq this) _ (L.s.trans k1)))
     | true =>
     obtain⟨l,rfl⟩:=eZ ep;obtain⟨ap,xp,rfl,K7,hxp⟩:=tp.tup_of;have hap1:=(L.s.trans k1).seqT K7;refine aP ⟨_,U,ap,xp,U,.inr hap1,_,_,U,U,_,U,?_⟩;have hlp:=hxp.length;by_cases h4:l.length<=4
     case neg =>
      refine pK (by rw[hlp];simp;omega) (HY (pq ?_) _ (L.s.trans k1));show (decide (l.length<=4)&&_)=false;rw[decide_eq_false h4];rfl
     refine pJ (by rw[hlp];simp;omega) ?_;rw[aC,wts,wts,wts,wts,aC] at hsz;rw[dp,dps,dps,dps,dps] at IM;have:=fo (.str "fun");have:=L.nn;have hll:=cN l;refine bT ap xp l [] q' _ _ (n+1) _ U hap1 hxp (xA h4) rfl (by show 0<3;decide) .nil rfl t2 (λy hy=>by cases hy) ?A ?_ (λy hy=>by have:=cM hy;omega);rw[aC,wts,wts,wts,wts,wts,aC];omega
end
end K13
set_option maxHeartbeats 2000000
namespace K13
open PySem L2 PySem.Spec PyProof.Rows PySem.SeqAt
def nB (l:List α) (p:PyData):wIn 0 ((l.length:Int)-1) p=(isW p&&(plc l (aY p)).isSome):=by
 cases p <;> first | rfl | skip
 rename_i i
 show (decide (0<=i)&&decide (i<=(l.length:Int)-1))=(true&&(plc l i).isSome);rw[Bool.true_and,oR];congr 1;exact decide_eq_decide.mpr ?A
def hd4:List Str:=["apply","op","new","call"]
section
variable {C:Cfg} {m:Nat} {kn:Kn} {n:Nat} {u:Wk} {p q:PyData}
def zK (a:h∈hd4) (b:isT q=false):fit C (m+1) kn n u (.tuple [.str h,p,q])=none:=by
 ext e
 · rw[jC,b];rfl
 ext e
 · rw[nV,b,Bool.and_false,Bool.false_and];rfl
 ext e
 · rw[kJ,b,Bool.and_false,Bool.false_and];rfl
 rw[mSg.mp a,j7,b,Bool.and_false,Bool.false_and];rfl
end
section
variable {C:Cfg} {m:Nat} {kn:Kn} {n:Nat} {u:Wk} {p q r:PyData} {l:PDs} {i k:Int}
def xz (a:plc C.R i=some k):fit C (m+1) kn n u (.tuple [.str "get",.int i,q,r])=if (isW q&&(decide (0<=aY q)&&decide (aY q<k)))=true then bz (fit C m kn n) [r] u else none:=by
 rw[nW,show aY (.int i)=i from rfl,a];rfl
def xk (a:plc C.R i=some k):fit C (m+1) kn n u (.tuple [.str "new",.int i,.tuple l])=if decide ((l.length:Int)=k)=true then bz (fit C m kn n) l u else none:=by
 rw[kJ,show aY (.int i)=i from rfl,a];rfl
def uz (a:plc C.F i=some (h,k)):fit C (m+1) kn n u (.tuple [.str "call",.int i,.tuple l])=if (!(decide (h="open"))&&decide (k=(l.length:Int)))=true then bz (fit C m kn n) l (u.1,u.2++[i]) else none:=by
 rw[j7,show aY (.int i)=i from rfl,a];rfl
def zI:fit C (m+1) kn n u (.tuple [.str "op",.str s,.tuple l])=if ((lkT opT s).isSome&&opN s l.length)=true then bz (fit C m kn n) l u else none:=by
 rw[nV,show (opD (.str s)&&isT (.tuple l))=(lkT opT s).isSome from Bool.and_true _];rfl
def zH (h:cA "str" p=false):fit C (m+1) kn n u (.tuple [.str "op",p,q])=none:=by
 have:opD p=false:=by cases p <;> first | rfl | cases h
 rw[nV,this];rfl
def xh (h:(isW p&&(plc C.R (aY p)).isSome)=false):fit C (m+1) kn n u (.tuple [.str "new",p,q])=none:=by
 rw[kJ];cases a:isW p with
 | false=>rfl
 | true =>
  rw[a,Bool.true_and] at h;cases b:plc C.R (aY p) with
  | none=>rw[Bool.and_false];rfl
  | some _=>rw[b] at h;cases h
def xw (h:(isW p&&(plc C.R (aY p)).isSome)=false):fit C (m+1) kn n u (.tuple [.str "get",p,q,r])=none:=by
 rw[nW];cases a:isW p with
 | false=>rfl
 | true =>
  rw[a,Bool.true_and] at h;cases b:plc C.R (aY p) with
  | none=>rw[Bool.and_false];rfl
  | some _=>rw[b] at h;cases h
def uy (h:(isW p&&(plc C.F (aY p)).isSome)=false):fit C (m+1) kn n u (.tuple [.str "call",p,q])=none:=by
 rw[j7];cases a:isW p with
 | false=>rfl
 | true =>
  rw[a,Bool.true_and] at h;cases b:plc C.F (aY p) with
  | none=>rw[Bool.and_false];rfl
  | some _=>rw[b] at h;cases h
end
def fu (f:α->β) (l:List α) (i:Int):(plc (l.map f) i).isSome=(plc l i).isSome:=by rw[eB,Option.isSome_map]
def kv9:List (Key×V):=[(.inr "not",.int 1),(.inr "size",.int 1),(.inr "add",.int 2),(.inr "sub",.int 2),(.inr "mul",.int 2),(.inr "div",.int 2),(.inr "less",.int 2),(.inr "same",.int 2),(.inr "at",.int 2)]
def C0 {s:Str} (h:s≠"row"):(∃ k:Int,bd kv9 (.inr s)=some (.int k)/\lkT opT s=some (k,k)/\k<=2)\/(bd kv9 (.inr s)=none/\lkT opT s=none):=by
 by_cases d:s∈(["not","size","add","sub","mul","div","less","same","at"]:List Str)
 · left
   simp only[List.mem_cons,nMN,or_false] at d
   rcases d with rfl | rfl | rfl | rfl | rfl | rfl | rfl | rfl | rfl
   · exact⟨1,U,U,by decide⟩
   · exact⟨1,U,U,by decide⟩
   · exact⟨2,U,U,by decide⟩
   · exact⟨2,U,U,by decide⟩
   · exact⟨2,U,U,by decide⟩
   · exact⟨2,U,U,by decide⟩
   · exact⟨2,U,U,by decide⟩
   · exact⟨2,U,U,by decide⟩
   · exact⟨2,U,U,by decide⟩
 · right
   constructor
   · cases e:bd kv9 (.inr s) with
     | none=>rfl
     | some v =>
      have b:=cy (.inr s) kv9;rw[e] at b;obtain⟨x,c,i⟩:=List.any_eq_true.mp (show (kv9.any λn=>decide (n.1=.inr s))=true from b);have g:=of_decide_eq_true i;exfalso;apply d;have:∀ x∈kv9,∃ z∈(["not","size","add","sub","mul","div","less","same","at"]:List Str),x.1=.inr z:=by
       intro x c;simp only[kv9,List.mem_cons,nMN,or_false] at c
       rcases c with rfl | rfl | rfl | rfl | rfl | rfl | rfl | rfl | rfl <;> exact⟨_,by simp,U⟩
      obtain⟨z,j,f⟩:=this x c;rw[g] at f;cases f;exact j
   · cases e:lkT opT s with
     | none=>rfl
     | some v =>
      have b:=fJ e;simp only[opT,List.mem_cons,nMN,or_false,Prod.mk.injEq] at b;exfalso
      rcases b with b | b | b | b | b | b | b | b | b | b
      all_goals first | exact h b.1 | exact d (by rw[b.1];simp)
section
variable {P:Program} {w:World} {K:Fg} {N:SOV} {base:Heap}
inductive AU (m:Nat) (K:Fg) (vs:List V) (H:Hp) (Q:VK):Prop
  | mk (H0:Hp) (v vc:V) (d:PyData) (fs rs os:PDs) (wk wl kd:Addr) (kvs:List (Key×V)) (kn:Kn) (u:Wk) (n:Nat) (h0:vs=[v,vc,.ref wk,.ref kd,.int ((n:Nat):Int)])
    (h1:Ls K H0 H vc fs rs os wk wl kd kvs kn u) (h2:BD K H0 v d) (h3:dp d<=m+1) (h4:u.1+u.2.length+wt d<=200000)
    (h5:(∃ p q r,d=.tuple [.str "get",p,q,r])\/∃ h p q,h∈hd4/\d=.tuple [.str h,p,q])
    (q:∀ H',aA H0 H'->(∀ u',fit (aX fs rs) (m+1) kn n u d=some u'->cL H' wk wl u')->Q (.bl (fit (aX fs rs) (m+1) kn n u d).isSome) H'):AU m K vs H Q
def Dd (m:Nat) (K:Fg):Sp:=λvs H Q _=>AU m K vs H Q
abbrev sLm:Stmt:=top 57
abbrev nLm:List Str:=["_law_e_here","_law_core_here","_law_walk","_law_known","_law_funs","_law_many_here"]
def DG:aM nLm psL (ad sLm):=fsM
def Ey (D:Def K N "_law_fits_many" sLm) (T:Blt K N) (bc:Fn P w K N base "_law_whole" 1 ["_law_thing","_law_least","_law_most"] (lK K)) (dz:Fn P w K N base "_law_fits" (l+1) psL (oK m K)) (cH:Fn P w K N base "_law_all" (l+2) psA (yM m K)):Fn P w K N base "_law_fits_many" (l+3) psL (Dd m K):=by
 refine D.fn DG ?P (λ_ _ _ _ _ _ us hl=>by obtain⟨a,b,c,d,e,rfl⟩:=qP hl;rfl) ?X
 · obtain⟨H0,v,vc,d,O,G,os,wk,Y,kd,kvs,M,u,n,rfl,_⟩:=h;rfl
 · obtain⟨H0,v,vc,d,O,G,os,wk,Y,kd,kvs,M,u,n,rfl,L,td,IM,hsz,IH,q⟩:=h;have nd:=DG.nd;have hu:=dN hr;ext d
   refine⟨_,(pE (aE (pP aZ ?I pD (pQ _)) (pE (aE (PW.pt (bF (aU (aQ (aB bc (hr.mono ?A) U (pA ?I (pA pG (pA (aT dX (bq T.len (pA (aj ae ?E pG ?H) pC)) pG) pC)))))) (bJ (aU (aQ (aB bc (hr.mono ?A) U (pA ?I (pA pG (pA (aT dX (aj ae (aj ae ?E pG ?H) ?I ?H) pG) pC))))))))) ?O am)
 (pH (ak (aB dz (hr.mono ?A) U (pA ?I ?Z))))) am)
 (pE (aE (aU (aQ (bO T.isinstance (pA ?I (pA (ba (v:=.ty "tuple") U T.tuple bG U) pC))))) ?O am)
 (pE (aE (pP aZ ?I pD (pQ _)) (pH (ak (aB cH (hr.mono ?A) U (pA (aT fb (aN (pA ?I pC)) ?I) ?Z)))) am)
 (pE (aE (pP aZ ?I pD (pQ _)) (@pE _ _ _ _ _ (@pN _ _ 5 _ _ _ _ nd U ?D (@kE _ _ _ _ _ (@b0 _ _ _ _ _ _ _ _ _ pD pG ?Ad) U U ?B ?G) ?K (by first | exact .inl U | exact .inr U))
 (pE (aE (PW.pt (bF (aU (aQ (bO T.isinstance (pA ?I (pA (ba (v:=.ty "str") U T.str cG U) pC))))) (bF (PW.pt (dw (pP fz ?I pD (pQ _)) (cX (pP fz (l9 hu (pv 5) ?I (iT g9 pG) ⟨U,U,U,U⟩) (bq T.len (pA ?I pC)) (pQ _))))) (bJ (pP ig (bq T.len (pA ?I pC)) pG (pQ _)))))) ?O am)
 (pH (ak (aB cH (hr.mono ?A) U (pA ?I ?Z)))))) am)
 (pE (aE (pP aZ ?I pD (pQ _)) (pE (aE (PW.pt (bF (aU (aQ (aB bc (hr.mono ?A) U (pA ?I (pA pG (pA (aT dX (bq T.len (pA (aj ae ?E pG ?H) pC)) pG) pC)))))) (bJ (pP fz (bq T.len (pA ?I pC)) (aj ae (aj ae ?E pG ?H) ?I ?H) (pQ _))))) ?O am)
 (pH (ak (aB cH (hr.mono ?A) U (pA ?I ?Z))))) am)
 (pE (aE (PW.pt (bF (aU (aQ (aB bc (hr.mono ?A) U (pA ?I (pA pG (pA (aT dX (bq T.len (pA (aj ae ?E pG ?H) pC)) pG) pC)))))) (bF (pP aZ (aj ae (aj ae (aj ae ?E pG ?H) ?I ?H) pG ?H) pD (pQ _)) (bJ (pP fz (bq T.len (pA ?I pC)) (aj ae (aj ae (aj ae ?E pG ?H) ?I ?H) pG ?H) (pQ _)))))) ?O am)
 (pE (cY (dL (aj b8 (pv 2) pG ?H) (pA ?I pC)))
 (pH (ak (aB cH (hr.mono ?A) U (pA ?I ?Z))))))))))),?_⟩
   ext b;have nn:=L.nn;have HY:∀ {d':PyData},d'=d->fit (aX O G) (m+1) M n u d'=none->∀ H',aA H0 H'->Q (.bl false) H':=λed e H' s'=>by
    rw[ed] at e;rw[e] at q;exact q H' s' λu' z=>(by cases z)
   have lev:∀ {d':PyData} {ks:PDs} {u1:Wk},d'=d->fit (aX O G) (m+1) M n u d'=bz (fit (aX O G) m M n) ks u1->∀ H',aA H0 H'->(∀ u',bz (fit (aX O G) m M n) ks u1=some u'->cL H' wk Y u')->Q (.bl (bz (fit (aX O G) m M n) ks u1).isSome) H':=λed e H' s' hw=>by
    rw[ed] at e;rw[e] at q;exact q H' s' hw
   clear q;obtain⟨c,vf,vr,vo,rfl,hc,hcf,hcr,hco⟩:=gD L.core;obtain⟨af,xf,rfl,Ir,IB⟩:=hcf.tup_of;obtain⟨ar,xr,rfl,IS,IP⟩:=hcr.tup_of;have recs:∀ {i:Int},(plc G i).isSome=true->∃ c:Int,plc (aX O G).R i=some c/\atI xr i=some (.int c):=λ{i} h=>by
    obtain⟨x,Z⟩:=Option.isSome_iff_exists.mp h;obtain⟨j,rfl,hj⟩:=dW Z;have hjl:=(gES.mp hj).1;obtain⟨d',hd',td'⟩:=IP.get (gEE (show j<xr.length by rw[IP.length];exact hjl));rw[hj] at hd';cases hd';have hw:=L.okr x (mGE hj);cases x <;> first | exact absurd (show false=true from hw) Bool.false_ne_true | skip
    rename_i k
    refine⟨k,?_,pI ?_⟩
    · rw[show (aX O G).R=G.map aY from rfl,eB,Z];rfl
    · rw[gEE (show j<xr.length by rw[IP.length];exact hjl),<- td'.int_of]
   have I:=L.s;refine ab λjP f9=>?_
   rcases IH with ⟨p,qq,r,rfl⟩ | ⟨h,p,qq,hh,rfl⟩
   · obtain⟨a,xs0,rfl,B,Z⟩:=td.tup_of;cases Z with
     | cons t0 Z =>
     cases Z with
     | cons tp Z =>
     cases Z with
     | cons tq Z =>
     cases Z with
     | cons tr Z =>
     cases Z;obtain rfl:=t0.str_of;rw[aC,wts,wts,wts,wts,wts] at hsz;rw[dp,dps,dps,dps,dps,dps] at IM;refine⟨_,U,a,_,0,_,U,U,I.seqT B,pI (j:=0) U,U,_,U,pK ?B (ab λBZ Ik=>?_)⟩;refine⟨_,U,a,_,1,_,U,U,I.seqT B,pI (j:=1) U,_,U,c,_,1,_,U,U,(I.seqT hc),pI (j:=1) U,ar,xr,U,.inr (I.seqT IS),_,_,U,U,_,p,0,_,U,tp.same I,by omega,λH1 s1=>⟨_,U,?_⟩⟩;have ew:wIn 0 ((xr.length:Int)-1) p=(isW p&&(plc G (aY p)).isSome):=by rw[IP.length];exact nB G p
     have g:=I.trans s1;cases W:wIn 0 ((xr.length:Int)-1) p with
     | false =>
      refine aJ (aJ (HY U ?_ _ g));exact xw (by rw[show (aX O G).R=G.map aY from rfl,fu,<- ew];exact W)
     | true =>
     rw[ew,Bool.and_eq_true] at W;obtain⟨i,rfl⟩:=cV W.1;obtain⟨k,hk,hak⟩:=recs W.2;obtain rfl:=tp.int_of;refine aP ⟨_,U,a,_,2,_,U,U,g.seqT B,pI (j:=2) U,_,U,c,_,1,_,U,U,g.seqT hc,pI (j:=1) U,_,U,a,_,1,_,U,U,g.seqT B,pI (j:=1) U,ar,xr,i,_,U,U,g.seqT IS,hak,_,_,U,U,_,qq,0,k-1,U,tq.same g,by omega,λH2 s2=>⟨_,U,?_⟩⟩;have sH2:=g.trans s2;have J:fit (aX O G) (m+1) M n u (.tuple [.str "get",.int i,qq,r])=if wIn 0 (k-1) qq=true then bz (fit (aX O G) m M n) [r] u else none:=by
      have e5:wIn 0 (k-1) qq=(isW qq&&(decide (0<=aY qq)&&decide (aY qq<k))):=by
       cases qq <;> first | rfl | skip
       rename_i j
       show (decide (0<=j)&&decide (j<=k-1))=(true&&(decide (0<=j)&&decide (j<k)));rw[Bool.true_and];congr 1;exact decide_eq_decide.mpr ?A
      rw[e5];exact xz hk
     cases e3:wIn 0 (k-1) qq with
     | false =>
      rw[e3] at J;exact aJ (HY U J _ sH2)
     | true =>
     rw[e3] at J;refine aP (Ik _ _ ?_);refine⟨_,U,a,_,3,_,U,U,sH2.seqT B,pI (j:=3) U,_,U,_,U,_,U,_,U,H0,_,_,r,O,G,os,wk,Y,kd,kvs,M,u,n,U,L.go sH2 ⟨s2 _ _ (s1 _ _ L.wa.k),s2 _ _ (s1 _ _ L.wa.l)⟩ (Int.le_refl _),tr,by omega,by omega,λH3 s3 JH=>?_⟩;have:=lev (ks:=[r]) (u1:=u) rfl J H3 s3;simp only[px] at this;exact this JH
   · obtain⟨a,x0,vp,vq,rfl,B,t0,tp,tq⟩:=gD td;obtain rfl:=t0.str_of;rw[aC,wts,wts,wts,wts] at hsz;rw[dp,dps,dps,dps,dps] at IM;have hng:h≠"get":=by rintro rfl;revert hh;decide
     refine⟨_,U,a,_,0,_,U,U,I.seqT B,pI (j:=0) U,U,_,U,pJ (by simp[hng]) (f9 _ _ (ab λjx fC=>?_))⟩;refine⟨_,U,a,_,2,_,U,U,I.seqT B,pI (j:=2) U,_,qq,_,U,tq.same I,iB,T.kit,_,U,?_⟩;cases eq_:cA "tuple" qq with
     | false=>exact aJ (HY U (zK hh (by rw[<- lq];exact eq_)) _ I)
     | true =>
     obtain⟨l,rfl⟩:=eZ eq_;obtain⟨aq,xq,rfl,JR,hxq⟩:=tq.tup_of;rw[aC] at hsz;rw[dp] at IM;have hql:=hxq.length;have hll:=cN l;have hdq:∀ y∈l,dp y<=m:=λy hy=>by have:=fP hy;omega
     refine aP (fC _ _ (ab λmy gH=>?_));refine⟨_,U,a,_,0,_,U,U,I.seqT B,pI (j:=0) U,U,_,U,?_⟩;by_cases K7:h="apply"
     · subst K7;refine pK ?B ?_;refine⟨_,U,a,_,1,_,U,U,I.seqT B,pI (j:=1) U,v3,λt hT=>?_⟩;have k1:=smu (o:=HO.tup [vp]) hT;have hT1:(upd H t (.tup [vp])) t=some (.tup [vp]):=pF;generalize upd H t (.tup [vp])=H1 at k1 hT1 ⊢;have J:fit (aX O G) (m+1) M n u (.tuple [.str "apply",p,.tuple l])=bz (fit (aX O G) m M n) (p::l) u:=by rw[jC];rfl
       have mk:∀ {H2:Hp} {t2:Addr},aA H H2->H t2=none->H2 t2=some (.tup (vp::xq))->y3 m K [.ref t2,.ref c,.ref wk,.ref kd,.int ((n:Nat):Int)] H2 Q:=λ{H2 t2} k h0 h2 =>
        ⟨off wk Y H2,t2,_,vp::xq,p::l,O,G,os,wk,Y,kd,kvs,M,u,n,U,L.up k,.inl (.inl (L.at_ h0 h2)),.cons (tp.same (L.so k)) (hxq.same (L.so k)),λy hy=>by
          rcases List.mem_cons.mp hy with rfl | hy
          · omega
          · exact hdq y hy,by rw[wts];omega,λH3 s3 JH=>lev U J H3 ((L.so k).trans s3) JH⟩
       refine⟨_,U,a,_,2,_,U,U,k1.seqT (I.seqT B),pI (j:=2) U,t,aq,[vp],xq,U,U,.inl (.inl hT1),k1.seqT (I.seqT JR),by rw[hql];show 1+_<=_;omega,λz=>(by cases z),λ_ z=>?_,λ_ _ p2 Jw=>?_⟩
       · exact⟨_,U,_,U,_,U,_,U,mk k1 hT (by rw[z];exact hT1)⟩
       · refine⟨_,U,_,U,_,U,_,U,mk (k1.trans (smu Jw)) ?_ pF⟩;cases e:H p2 with
         | none=>rfl
         | some o=>rw[k1 _ _ e] at Jw;cases Jw
     refine pJ (by simp[K7]) (gH _ _ (ab λoX iD=>?_));refine⟨_,U,a,_,0,_,U,U,I.seqT B,pI (j:=0) U,U,_,U,?_⟩;by_cases hop:h="op"
     · subst hop;refine pK ?B (ab λBZ Ik=>?_);refine λpd hpd=>⟨pF,kv9,U,by decide,?_⟩;have k1:aA H (upd (upd H pd (.dK [])) pd (.dK (br [] kv9))):=aK (smu hpd) hpd;have IK:(upd (upd H pd (.dK [])) pd (.dK (br [] kv9))) pd=some (.dK kv9):=pF;generalize upd (upd H pd (.dK [])) pd (.dK (br [] kv9))=H1 at k1 IK ⊢;have g:=I.trans k1;refine Ik _ _ (ab λFP IZ=>?_);refine⟨_,U,a,_,1,_,U,U,g.seqT B,pI (j:=1) U,_,p,_,U,tp.same g,lR,T.kit,_,U,?_⟩;cases es:cA "str" p with
       | false=>exact aJ (aJ (HY U (zH es) _ g))
       | true =>
       obtain⟨z,rfl⟩:=gq es;obtain rfl:=tp.str_of;have J:=zI (C:=aX O G) (m:=m) (kn:=M) (n:=n) (u:=u) (l:=l) (s:=z);have go:((lkT opT z).isSome&&opN z l.length)=true->FP (([some (V.ref a),some (V.ref c),some (V.ref wk),some (V.ref kd),some (V.int ((n:Nat):Int)),some (V.ref pd)]:L2.St)) H1:=λe=>by
        rw[e] at J;refine IZ _ _ ?_;exact⟨_,U,a,_,2,_,U,U,g.seqT B,pI (j:=2) U,_,U,_,U,_,U,_,U,H0,aq,_,xq,l,O,G,os,wk,Y,kd,kvs,M,u,n,U,L.go g ⟨k1 _ _ L.wa.k,k1 _ _ L.wa.l⟩ (Int.le_refl _),JR,hxq,hdq,by omega,λH3 s3 JH=>lev U J H3 s3 JH⟩
       have no:((lkT opT z).isSome&&opN z l.length)=false->Q (.bl false) H1:=λe=>by
        rw[e] at J;exact HY U J _ g
       refine aP ⟨_,U,a,_,1,_,U,U,g.seqT B,pI (j:=1) U,U,_,U,?_⟩;by_cases hrow:z="row"
       · subst hrow;have er:((lkT opT "row").isSome&&opN "row" l.length)=decide ((l.length:Int)<=8):=by
          show (true&&(decide ((0:Int)<=(l.length:Int))&&decide ((l.length:Int)<=8)))=_;rw[Bool.true_and,decide_eq_true ?A,Bool.true_and]
         rw[er] at go no;refine pJ ?B (aP ⟨_,U,a,_,2,_,U,U,g.seqT B,pI (j:=2) U,aq,xq,U,.inr (g.seqT JR),_,_,U,U,_,U,?_⟩);rw[hql];by_cases h8:(l.length:Int)<=8
         · exact pJ ?Q (go (decide_eq_true h8))
         · exact pK ?Q (no (decide_eq_false h8))
       · refine pK (by simpa using hrow) ?_
         rcases C0 hrow with ⟨k,W,e2,Ig⟩ | ⟨W,e2⟩
         · have er:((lkT opT z).isSome&&opN z l.length)=decide ((l.length:Int)=k):=by
            unfold opN;rw[e2];show (true&&(decide (k<=(l.length:Int))&&decide ((l.length:Int)<=k)))=_;rw[Bool.true_and,<- Bool.decide_and];exact decide_eq_decide.mpr ?A
           rw[er] at go no;ext l;by_cases h8:(l.length:Int)=k
           · refine pJ (by simp[h8]) ⟨_,U,a,_,2,_,U,U,g.seqT B,pI (j:=2) U,aq,xq,U,.inr (g.seqT JR),_,_,U,U,_,U,?_⟩;rw[hql];exact pJ ?Q (go (decide_eq_true h8))
           · exact pK (by simpa using λz=>h8 z.symm) (aJ (no (decide_eq_false h8)))
         · have er:((lkT opT z).isSome&&opN z l.length)=false:=by rw[e2];rfl
           ext l;exact pK (by first | (simp;done) | (simp;omega)) (aJ (no er))
     refine pJ (by simp[hop]) (iD _ _ (ab λsv jj=>?_));refine⟨_,U,a,_,0,_,U,U,I.seqT B,pI (j:=0) U,U,_,U,?_⟩;by_cases hnw:h="new"
     · subst hnw;refine pK ?B (ab λBZ Ik=>?_);refine⟨_,U,a,_,1,_,U,U,I.seqT B,pI (j:=1) U,_,U,c,_,1,_,U,U,I.seqT hc,pI (j:=1) U,ar,xr,U,.inr (I.seqT IS),_,_,U,U,_,p,0,_,U,tp.same I,by omega,λH1 s1=>⟨_,U,?_⟩⟩;have ew:wIn 0 ((xr.length:Int)-1) p=(isW p&&(plc G (aY p)).isSome):=by rw[IP.length];exact nB G p
       have g:=I.trans s1;cases W:wIn 0 ((xr.length:Int)-1) p with
       | false=>exact aJ (aJ (HY U (xh (by rw[show (aX O G).R=G.map aY from rfl,fu,<- ew];exact W)) _ g))
       | true =>
       rw[ew,Bool.and_eq_true] at W;obtain⟨i,rfl⟩:=cV W.1;obtain⟨k,hk,hak⟩:=recs W.2;obtain rfl:=tp.int_of;refine aP ⟨_,U,a,_,2,_,U,U,g.seqT B,pI (j:=2) U,aq,xq,U,.inr (g.seqT JR),_,U,c,_,1,_,U,U,g.seqT hc,pI (j:=1) U,_,U,a,_,1,_,U,U,g.seqT B,pI (j:=1) U,ar,xr,i,_,U,U,g.seqT IS,hak,U,_,U,?_⟩;have J:=xk (m:=m) (kn:=M) (n:=n) (u:=u) (l:=l) hk;rw[hql];by_cases e3:(l.length:Int)=k
       case neg =>
        rw[decide_eq_false e3] at J;exact pK (by simpa using e3) (HY U J _ g)
       rw[decide_eq_true e3] at J;refine pJ (by simpa using e3) (Ik _ _ ?_);exact⟨_,U,a,_,2,_,U,U,g.seqT B,pI (j:=2) U,_,U,_,U,_,U,_,U,H0,aq,_,xq,l,O,G,os,wk,Y,kd,kvs,M,u,n,U,L.go g ⟨s1 _ _ L.wa.k,s1 _ _ L.wa.l⟩ (Int.le_refl _),JR,hxq,hdq,by omega,λH3 s3 JH=>lev U J H3 s3 JH⟩
     have hca:h="call":=by
      simp only[hd4,List.mem_cons,nMN,or_false] at hh
      rcases hh with z | z | z | z
      · exact absurd z K7
      · exact absurd z hop
      · exact absurd z hnw
      · exact z
     subst hca;refine pJ ?G (jj _ _ (ab λyn mD=>?_));have funs:∀ {i:Int},(plc O i).isSome=true->∃ (t:Addr) (h:Str) (k:Int) (vb:V),plc (aX O G).F i=some (h,k)/\atI xf i=some (.ref t)/\SqT K H0 t [.str h,.int k,vb]:=λ{i} h=>by
      obtain⟨x,Z⟩:=Option.isSome_iff_exists.mp h;obtain⟨j,rfl,hj⟩:=dW Z;have hjl:=(gES.mp hj).1;have hjx:=gEE (show j<xf.length by rw[IB.length];exact hjl);obtain⟨d',hd',td'⟩:=IB.get hjx;rw[hj] at hd';cases hd';obtain⟨h,k,b,rfl,_⟩:=eI (L.okf x (mGE hj));obtain⟨t,y1,y2,vb,e,ht,u1,u2,_⟩:=gD td';obtain rfl:=u1.str_of;obtain rfl:=u2.int_of;refine⟨t,h,k,vb,?_,pI (by rw[hjx,e]),ht⟩;rw[show (aX O G).F=O.map λf=>(bu f,aY (p0 f)) from rfl,eB,Z];rfl
     refine⟨_,U,a,_,1,_,U,U,I.seqT B,pI (j:=1) U,_,U,c,_,0,_,U,U,I.seqT hc,pI (j:=0) U,af,xf,U,.inr (I.seqT Ir),_,_,U,U,_,p,0,_,U,tp.same I,by omega,λH1 s1=>⟨_,U,?_⟩⟩;have ew:wIn 0 ((xf.length:Int)-1) p=(isW p&&(plc O (aY p)).isSome):=by rw[IB.length];exact nB O p
     have g:=I.trans s1;cases W:wIn 0 ((xf.length:Int)-1) p with
     | false=>exact aJ (aJ (HY U (uy (by rw[show (aX O G).F=O.map λf=>(bu f,aY (p0 f)) from rfl,fu,<- ew];exact W)) _ g))
     | true =>
     rw[ew,Bool.and_eq_true] at W;obtain⟨i,rfl⟩:=cV W.1;obtain⟨tf,hf,k,vb,hk,hak,htf⟩:=funs W.2;obtain rfl:=tp.int_of;have J:=uz (m:=m) (kn:=M) (n:=n) (u:=u) (l:=l) hk;refine aP ⟨_,U,c,_,0,_,U,U,g.seqT hc,pI (j:=0) U,_,U,a,_,1,_,U,U,g.seqT B,pI (j:=1) U,af,xf,i,_,U,U,g.seqT Ir,hak,tf,_,0,_,U,U,g.seqT htf,pI (j:=0) U,U,_,U,?_⟩;by_cases e2:hf="open"
     · rw[decide_eq_true e2,Bool.not_true,Bool.false_and] at J;exact pK (by simpa using e2) (aJ (HY U J _ g))
     rw[decide_eq_false e2,Bool.not_false,Bool.true_and] at J;refine pJ (by simpa using e2) ⟨_,U,a,_,2,_,U,U,g.seqT B,pI (j:=2) U,aq,xq,U,.inr (g.seqT JR),_,U,c,_,0,_,U,U,g.seqT hc,pI (j:=0) U,_,U,a,_,1,_,U,U,g.seqT B,pI (j:=1) U,af,xf,i,_,U,U,g.seqT Ir,hak,tf,_,1,_,U,U,g.seqT htf,pI (j:=1) U,U,_,U,?_⟩;rw[hql];by_cases e3:k=(l.length:Int)
     case neg =>
      rw[decide_eq_false e3] at J;exact pK (by simpa using λz=>e3 z.symm) (HY U J _ g)
     rw[decide_eq_true e3] at J;refine pJ (by simp[e3]) (mD _ _ (ab λBX qX=>?_));have wk1:=s1 _ _ L.wa.k;have wl1:=s1 _ _ L.wa.l;refine⟨_,U,wk,_,1,_,U,U,SqL.of wk1,pI (j:=1) U,.inl ⟨U,_,SqL.of wl1⟩,_,U,a,_,1,_,U,U,g.seqT B,pI (j:=1) U,Y,_,_,U,U,wl1,by rw[lMp];omega,?_⟩;have hl2:(upd H1 Y (.lst (u.2.map V.int++[.int i]))) Y=some (.lst ((u.2++[i]).map V.int)):=by rw[pF,List.map_append];rfl
     have Ig:(upd H1 Y (.lst (u.2.map V.int++[.int i]))) wk=some (.lst [.int u.1,.ref Y]):=by rw[ai L.ne];exact wk1
     have s2:aA H0 (upd H1 Y (.lst (u.2.map V.int++[.int i]))):=aK g L.z2;generalize upd H1 Y (.lst (u.2.map V.int++[.int i]))=H2 at hl2 Ig s2 ⊢;refine qX _ _ ?_;exact⟨_,U,a,_,2,_,U,U,s2.seqT B,pI (j:=2) U,_,U,_,U,_,U,_,U,H0,aq,_,xq,l,O,G,os,wk,Y,kd,kvs,M,(u.1,u.2++[i]),n,U,L.go s2 ⟨Ig,hl2⟩ (Int.le_refl _),JR,hxq,hdq,by
       show u.1+((u.2++[i]).length:Int)+_<=_;rw[lAp,List.length_singleton];have:=fo (.str "call");omega,λH3 s3 JH=>lev U J H3 s3 JH⟩
end
end K13
set_option maxHeartbeats 4000000
namespace L2
open PySem PySem.Spec PyProof.Rows
section
variable {X:Cx}
def E4 (K:Fg):R2:=λx y H Q=>∃ a b xs,x=.ref a/\y=.ref b/\SqT K H a xs/\SqT K H b []/\Q (.bl (!xs.isEmpty)) H
def sq (B:X.A.units+64<cLine):OpR X (compareOp .NotEq) (E4 X.K):=by
 intro f s σ H x y v u Q I l m h;obtain⟨a,b,d,rfl,rfl,i,o,q⟩:=h;cases l;cases m;obtain⟨c,n,p1,_⟩:=I.tuple i;obtain⟨t,p,k,_⟩:=I.tuple o;have j:=p.nil_iff.mpr rfl;subst j;refine SeqAt.RcNeAt.tuples (e:=λ_=>true) p1 k (by lia) (λj z r=>absurd r ?B) X.prog X.w X.xe _ ?_;have g:=n.length;have:(!((List.range (min c.toArray.size ([]:List Value).toArray.size)).all (λ_=>true)&&c.toArray.size==([]:List Value).toArray.size))=!d.isEmpty:=by
  cases d with
  | _=>simp at g;simp[<- g]
 rw[this];exact⟨.bl (!d.isEmpty),H,I,U,q⟩
end
end L2
set_option maxHeartbeats 2000000
namespace K13
open PySem L2 PySem.Spec PyProof.Rows PySem.SeqAt
def zU (x:V) (l:List V):gP (x::l) (some 1) none=l:=by
 unfold gP HT.sIx;simp
def Fl (x y:V) (l:List V):gP (x::y::l) (some 2) none=l:=by
 unfold gP HT.sIx;simp
def kvA:List (Key×V):=[(.inr "number",.int 2),(.inr "name",.int 2),(.inr "fault",.int 2),(.inr "say",.int 2),(.inr "do",.int 2),(.inr "set",.int 3),(.inr "while",.int 3),(.inr "op",.int 3),(.inr "new",.int 3)]
def kvB:List (Key×V):=[(.inr "fun",.int 3),(.inr "apply",.int 3),(.inr "call",.int 3),(.inr "let",.int 4),(.inr "var",.int 4),(.inr "each",.int 4),(.inr "if",.int 4),(.inr "get",.int 4)]
def zA (s:Str):(∃ f,lkT tbl s=some f/\bd (br kvA kvB) (.inr s)=some (.int ((f.length:Int)+1)))\/(lkT tbl s=none/\bd (br kvA kvB) (.inr s)=none):=by
 have h:br kvA kvB=kvA++kvB:=by rfl
 rw[h];by_cases b:s∈tbl.map (·.1)
 · left
   simp only[tbl,List.map_cons,List.map_nil,List.mem_cons,nMN,or_false] at b
   rcases b with rfl | rfl | rfl | rfl | rfl | rfl | rfl | rfl | rfl | rfl | rfl | rfl | rfl | rfl | rfl | rfl | rfl
   all_goals exact⟨_,U,U⟩
 · right
   constructor
   · cases e:lkT tbl s with
     | none=>rfl
     | some v=>exact absurd (List.mem_map.mpr ⟨_,fJ e,U⟩) b
   · cases e:bd (kvA++kvB) (.inr s) with
     | none=>rfl
     | some v =>
      have d:=cy (.inr s) (kvA++kvB);rw[e] at d;obtain⟨x,a,j⟩:=List.any_eq_true.mp (show ((kvA++kvB).any λn=>decide (n.1=.inr s))=true from d);have i:=of_decide_eq_true j;exfalso;apply b;have:∀ x∈kvA++kvB,∃ z∈tbl.map (·.1),x.1=.inr z:=by
       intro x a;simp only[kvA,kvB,List.cons_append,List.nil_append,List.mem_cons,nMN,or_false] at a
       rcases a with rfl | rfl | rfl | rfl | rfl | rfl | rfl | rfl | rfl | rfl | rfl | rfl | rfl | rfl | rfl | rfl | rfl
       all_goals exact⟨_,by simp[tbl],U⟩
      obtain⟨z,g,c⟩:=this x a;rw[i] at c;cases c;exact g
def vE (h:cB d=true):∃ c p e b,d=.tuple (.str c::p::e)/\lkT tbl c=some b/\e.length+1=b.length:=by
 obtain⟨c,b,g,rfl,i,f,a,_⟩:=eU h;have j:∀ x∈tbl,0<x.2.length:=by decide
 have:0<b.length:=j _ i;cases g with
 | nil=>simp at a;omega
 | cons p e=>exact⟨c,p,e,b,U,f,a⟩
section
variable {P:Program} {w:World} {K:Fg} {J:SOV} {base:Heap}
abbrev sLf:Stmt:=top 55
abbrev nLf:List Str:=["_law_e_here","_law_core_here","_law_walk","_law_known","_law_funs","_law_lengths","_law_is_var","_law_around"]
def Bu:aM nLf psL (ad sLf):=fsM
def BT (D:Def K J "_law_fits" sLf):Fn P w K J base "_law_fits" 2 psL (oK 0 K):=by
 refine D.fn Bu ?P (λ_ _ _ _ _ _ B i=>by obtain⟨a,b,c,d,e,rfl⟩:=qP i;rfl) (λf G A f s H y Q E F h=>?_)
 · obtain⟨p,v,r,d,fs,x,m,t,o,l,g,k,u,n,rfl,_⟩:=h;rfl
 · obtain⟨p,v,r,d,fs,x,m,t,o,l,g,k,u,n,rfl,L,z,C,j,q⟩:=h;exfalso;have:=xF d;omega
def EB (D:Def K J "_law_fits" sLf) (T:Blt K J) (bc:Fn P w K J base "_law_whole" 1 ["_law_thing","_law_least","_law_most"] (lK K)) (dl:Fn P w K J base "_law_is_word" 1 ["_law_thing"] (spA fW K)) (cH:Fn P w K J base "_law_all" (l+2) psA (yM m K)) (jh:Fn P w K J base "_law_fits_binder" (l+3) psL (Dg m K)) (kl:Fn P w K J base "_law_fits_many" (l+3) psL (Dd m K)):Fn P w K J base "_law_fits" (l+4) psL (oK (m+1) K):=by
 refine D.fn Bu ?P (λ_ _ _ _ _ _ us hl=>by obtain⟨a,b,c,d,e,rfl⟩:=qP hl;rfl) ?X
 · obtain⟨H0,v,vc,d,W,Y,os,R,Z,kd,kvs,G,u,n,rfl,_⟩:=h;rfl
 · obtain⟨H0,v,vc,d,W,Y,os,R,Z,kd,kvs,G,u,n,rfl,L,td,IM,hsz,q⟩:=h;have nd:=Bu.nd;have hu:=dN hr;have IL:(A.deeper (PyProof.Rows.envOfC "_law_fits" (ad sLf) s.heap.objs.size f kb)).units+64<cLine:=by have:=hr.un;omega
   ext d
   refine⟨_,(pE (aE (PW.pt (bF (aU (aQ (bO T.isinstance (pA ?C (pA (ba (v:=.ty "tuple") U T.tuple bG U) pC))))) (bF (pP gN (bq T.len (pA ?C pC)) pG (pQ _)) (bJ (aU (aQ (bO T.isinstance (pA ?I (pA (ba (v:=.ty "str") U T.str cG U) pC))))))))) ?O am)
 (@pE _ _ _ _ _ (@pN _ _ 5 _ _ _ _ nd U ?D (@kE _ _ _ _ _ (@b0 _ _ _ _ _ _ _ _ _ pD pG ?Ad) U U ?B ?G) ?K (by first | exact .inl U | exact .inr U))
 (@pE _ _ _ _ _ (cY (BF (pv 5) (@kE _ _ _ _ _ ?Ad U U ?B ?G) ⟨U,U,U,U⟩))
 (pE (aE (pP fz (l9 hu (pv 5) ?I pG ⟨U,U,U,U⟩) (bq T.len (pA ?C pC)) (pQ _)) ?O am)
 (pE (aE (pP aZ ?I pD (pQ _)) (pH (ak (aB bc (hr.mono ?A) U (pA ?I (pA (iT g9 pG) (pA pG pC)))))) am)
 (pE (aE (pP aZ ?I pD (pQ _)) (pH (ak (aB dl (hr.mono ?A) U (pA ?I pC)))) am)
 (pE (aE (pP fj ?I (aN (pA pD (pA pD (pA pD pC)))) (by with_unfolding_all rfl)) (pH (ak (aB cH (hr.mono ?A) U (pA (cF eA ?C (cC pG) dE) ?Z)))) am)
 (pE (aE (pP aZ ?I pD (pQ _)) (pH (ak (cJ (bO T.isinstance (pA ?I (pA (ba (v:=.ty "tuple") U T.tuple bG U) pC))) (cJ (bL (sq IL) ?I (aN pC) (pQ _)) (de (aB cH (hr.mono ?A) U (pA ?I ?Z))))))) am)
 (pE (aE (pP fj ?I (aN (pA pD (pA pD pC))) (by with_unfolding_all rfl)) (pE (aE (PW.pt (bF (aU (aQ (aB bc (hr.mono ?A) U (pA ?I (pA pG (pA (aT wE pG pG) pC)))))) (bJ (l0 (jv hu ?I (pv 3)))))) ?O am)
 (pE (gL (pM hu (pv 3) ?I ?H) (cv U (aF (ax (i:=6) nd U ?D) (aF (ax (i:=7) nd U ?D) bI))))
 (pE (aE (PW.pt (bF (PW.pt (dw (aQ (pv 6)) (cX (pP fz (pv 7) (pv 4) (pQ _))))) (bJ (PW.pt (dw (pP aZ ?I pD (pQ _)) (cX (aU (aQ (pv 6))))))))) ?O am)
 (pH (ak (aB cH (hr.mono ?A) U (pA (cF eA ?C (cC pG) dE) ?Z))))))) am)
 (pE (aE (pP fj ?I (aN (pA pD (pA pD (pA pD (pA pD pC))))) (by with_unfolding_all rfl)) (pH (ak (aB jh (hr.mono ?A) U (pA ?C ?Z)))) am)
 (pH (ak (aB kl (hr.mono ?A) U (pA ?C ?Z)))))))))))))),?_⟩
   ext b;have nn:=L.nn;have HY:∀ {d':PyData},d'=d->fit (aX W Y) (m+1) G n u d'=none->∀ I,aA H0 I->Q (.bl false) I:=λed e I s'=>by
    rw[ed] at e;rw[e] at q;exact q I s' λu' z=>(by cases z)
   have lev:∀ {d':PyData} {ks:PDs} {u1:Wk},d'=d->fit (aX W Y) (m+1) G n u d'=bz (fit (aX W Y) m G n) ks u1->∀ I,aA H0 I->(∀ u',bz (fit (aX W Y) m G n) ks u1=some u'->cL I R Z u')->Q (.bl (bz (fit (aX W Y) m G n) ks u1).isSome) I:=λed e I s' hw=>by
    rw[ed] at e;rw[e] at q;exact q I s' hw
   have leaf:∀ {d':PyData} {b:Bool},d'=d->fit (aX W Y) (m+1) G n u d'=(if b=true then some u else none)->∀ I,aA H0 I->cL I R Z u->Q (.bl b) I:=λ{d' b} ed e I s' hw=>by
    rw[ed] at e;rw[e] at q;cases b with
    | false=>exact q I s' λu' z=>(by cases z)
    | true=>exact q I s' λu' z=>(by cases z;exact hw)
   have bad:cB d=false->∀ I,aA H0 I->Q (.bl false) I:=λe=>HY rfl (zJ e);have nosh:(∀ hd p F sl,d=.tuple (.str hd::p::F)->lkT tbl hd=some sl->F.length+1=sl.length->False)->cB d=false:=λhno=>by
    cases e:cB d with
    | false=>rfl
    | true =>
     obtain⟨_,_,_,_,h1,h2,h3⟩:=vE e;exact (hno _ _ _ _ h1 h2 h3).elim
   have sH:=L.s;refine ab λjP f9=>?_;refine⟨_,U,v,d,_,U,td.same sH,iB,T.kit,_,U,?_⟩;cases e1:cA "tuple" d with
   | false=>exact aJ (aJ (bad (nosh λ_ _ _ _ ed _ _=>by rw[ed] at e1;cases e1) _ sH))
   | true =>
   obtain⟨ds,rfl⟩:=eZ e1;obtain⟨a,xs,rfl,N,hx⟩:=td.tup_of;have hxl:=hx.length;refine aP ⟨_,U,a,xs,U,.inr (sH.seqT N),_,_,U,U,_,U,?_⟩;by_cases h2:2<=ds.length
   case neg=>exact pK (by rw[hxl];simp;omega) (aJ (bad (nosh λ_ _ _ _ ed _ _=>by cases ed;exact h2 ?B) _ sH))
   refine pJ (by rw[hxl];simp;omega) ?_;obtain⟨d0,p,F,rfl⟩:∃ d0 p F,ds=d0::p::F:=by
    cases ds with
    | nil=>simp at h2
    | cons d0 ds =>
     cases ds with
     | nil=>simp at h2
     | cons p F=>exact⟨_,_,_,U⟩
   obtain⟨x0,vp,xt,rfl,t0,tp,ht⟩:∃ x0 vp xt,xs=x0::vp::xt/\BD K H0 x0 d0/\BD K H0 vp p/\BDs K H0 xt F:=by
    cases hx with
    | cons t0 hx =>
    cases hx with
    | cons t1 hx=>exact⟨_,_,_,U,t0,t1,hx⟩
   refine⟨_,U,a,_,0,_,U,U,sH.seqT N,pI (j:=0) U,x0,d0,_,U,t0.same sH,lR,T.kit,_,U,?_⟩;cases e2:cA "str" d0 with
   | false=>exact aJ (bad (nosh λ_ _ _ _ ed _ _=>by cases ed;cases e2) _ sH)
   | true =>
   obtain⟨h,rfl⟩:=gq e2;obtain rfl:=t0.str_of;refine aP (f9 _ _ (ab λjx fC=>?_));refine λpd hpd=>⟨pF,kvA,U,by decide,?_⟩;have k1:aA H (upd (upd H pd (.dK [])) pd (.dK (br [] kvA))):=aK (smu hpd) hpd;have IK:(upd (upd H pd (.dK [])) pd (.dK (br [] kvA))) pd=some (.dK kvA):=pF;generalize upd (upd H pd (.dK [])) pd (.dK (br [] kvA))=H1 at k1 IK ⊢;refine fC _ _ (ab λmy gH=>?_);refine⟨_,U,pd,U,.inl ⟨_,.inl IK⟩,λpe hpe=>⟨pF,kvB,U,by decide,?_⟩⟩;have k2:aA H1 (upd (upd H1 pe (.dK [])) pe (.dK (br [] kvB))):=aK (smu hpe) hpe;have hpe2:(upd (upd H1 pe (.dK [])) pe (.dK (br [] kvB))) pe=some (.dK kvB):=pF;generalize upd (upd H1 pe (.dK [])) pe (.dK (br [] kvB))=H2 at k2 hpe2 ⊢;refine⟨pe,kvA,kvB,U,λz=>(by rw[z,hpe] at IK;cases IK),k2 _ _ IK,hpe2,by decide,?_⟩;have k3:aA H (upd H2 pd (.dK (br kvA kvB))):=aK (k1.trans k2) hpd;have hpd3:(upd H2 pd (.dK (br kvA kvB))) pd=some (.dK (br kvA kvB)):=pF;generalize upd H2 pd (.dK (br kvA kvB))=H3 at k3 hpd3 ⊢;have s3:=sH.trans k3;refine gH _ _ (ab λoX iD=>?_);have dg:=dC.k (H:=H3) (a:=pd) (k:=.inr h) hpd3;have hxt:=ht.length
   rcases zA h with ⟨sl,HZ,ev⟩ | ⟨HZ,ev⟩
   case inr =>
    rw[ev] at dg;refine⟨_,U,pd,U,.inl ⟨_,.inl hpd3⟩,_,U,a,_,0,_,U,U,s3.seqT N,pI (j:=0) U,_,dg,_,U,a,_,U,.inr (s3.seqT N),U,_,U,?_⟩;refine pK ?Q (bad (nosh λ_ _ _ _ ed hl _=>by cases ed;rw[HZ] at hl;cases hl) _ s3)
   rw[ev] at dg;refine⟨_,U,pd,U,.inl ⟨_,.inl hpd3⟩,_,U,a,_,0,_,U,U,s3.seqT N,pI (j:=0) U,_,dg,_,U,a,_,U,.inr (s3.seqT N),U,_,U,?_⟩;by_cases B:F.length+1=sl.length
   case neg=>exact pK ?Q (bad (nosh λ_ _ _ _ ed hl hh=>by cases ed;rw[HZ] at hl;cases hl;exact B hh) _ s3)
   refine pJ ?Q (iD _ _ (ab λsv jj=>?_));have w3:cL H3 R Z u:=⟨k3 _ _ L.wa.k,k3 _ _ L.wa.l⟩;have hwp:wt p<=200000:=by rw[aC,wts,wts] at hsz;omega
   refine⟨_,U,a,_,0,_,U,U,s3.seqT N,pI (j:=0) U,U,_,U,?_⟩;by_cases c5:h="number"
   · subst c5;cases (show some (["number"]:List Str)=some sl from HZ);have:F=[]:=List.length_eq_zero_iff.mp (by simpa using B);subst this;exact pK ?B ⟨_,U,a,_,1,_,U,U,s3.seqT N,pI (j:=1) U,32768,U,_,p,-32768,32767,U,tp.same s3,by omega,λI s'=>leaf U lv I (s3.trans s') ⟨s' _ _ w3.k,s' _ _ w3.l⟩⟩
   refine pJ (by simp[c5]) (jj _ _ (ab λyn mD=>?_));refine⟨_,U,a,_,0,_,U,U,s3.seqT N,pI (j:=0) U,U,_,U,?_⟩;by_cases c6:h="fault"
   · subst c6;cases (show some (["word"]:List Str)=some sl from HZ);have:F=[]:=List.length_eq_zero_iff.mp (by simpa using B);subst this;exact pK ?B ⟨_,U,a,_,1,_,U,U,s3.seqT N,pI (j:=1) U,_,p,U,tp.same s3,by omega,λI s'=>leaf U mG I (s3.trans s') ⟨s' _ _ w3.k,s' _ _ w3.l⟩⟩
   refine pJ (by simp[c6]) (mD _ _ (ab λBX qX=>?_));rw[aC,wts,wts] at hsz;rw[dp,dps,dps] at IM;have hdt:∀ y∈F,dp y<=m:=λy hy=>by have:=fP hy;omega
   refine⟨_,U,a,_,0,_,U,U,s3.seqT N,pI (j:=0) U,ma,λM hM=>⟨M,_,U,.inr (SqT.of pF),U,dB ["say","while","if"],_,U,?_⟩⟩;rw[show (inV (V.str h) [V.str "say",V.str "while",V.str "if"])=(["say","while","if"]:List Str).any (λy=>y==h) from eT h ["say","while","if"]];have k4:=smu (o:=HO.tup [V.str "say",V.str "while",V.str "if"]) hM;generalize upd H3 M (.tup [V.str "say",V.str "while",V.str "if"])=H4 at k4 ⊢;have s4:=s3.trans k4;have hk4:=k3.trans k4;cases c7:(["say","while","if"]:List Str).any (λy=>y==h) with
   | true =>
    have eg:fit (aX W Y) (m+1) G n u (.tuple (.str h::p::F))=bz (fit (aX W Y) m G n) (p::F) u:=by
     simp only[List.any_cons,List.any_nil,Bool.or_false,Bool.or_eq_true,beq_iff_eq] at c7
     rcases c7 with rfl | rfl | rfl
     · cases (show some (["one"]:List Str)=some sl from HZ);have:F=[]:=List.length_eq_zero_iff.mp (by simpa using B);subst this;exact sN
     · cases (show some (["one","one"]:List Str)=some sl from HZ);obtain⟨x,rfl⟩:=dM (l:=F) (by simpa using B);exact mF
     · cases (show some (["one","one","one"]:List Str)=some sl from HZ);obtain⟨x,y,rfl⟩:=f8 (l:=F) (by simpa using B);exact xv
    refine aJ ?_;rw[gr];refine⟨_,U,?_⟩;rw[dD];refine⟨1,U,?_⟩;refine⟨a,_,U,s4.seqT N,λz=>(by have:=congrArg List.length z;rw[zU] at this;simp at this),λps Jj=>?_⟩;rw[zU];have k5:=smu (o:=HO.tup (vp::xt)) Jj;have Jo:(upd H4 ps (.tup (vp::xt))) ps=some (.tup (vp::xt)):=pF;generalize upd H4 ps (.tup (vp::xt))=H5 at k5 Jo ⊢;have hpsH:H ps=none:=by
     cases e:H ps with
     | none=>rfl
     | some o=>rw[hk4 _ _ e] at Jj;cases Jj
    have k05:=hk4.trans k5;exact⟨_,U,_,U,_,U,_,U,off R Z H5,ps,_,vp::xt,p::F,W,Y,os,R,Z,kd,kvs,G,u,n,U,L.up k05,.inl (.inl (L.at_ hpsH Jo)),.cons (tp.same (L.so k05)) (ht.same (L.so k05)),λy hy=>(by
      rcases List.mem_cons.mp hy with rfl | hy
      · omega
      · exact hdt y hy),(by rw[wts];omega),λH6 s6 hw6=>lev U eg H6 ((L.so k05).trans s6) hw6⟩
   | false =>
   refine aP (qX _ _ (ab λGQ Ay=>?_));have w4:cL H4 R Z u:=⟨k4 _ _ w3.k,k4 _ _ w3.l⟩;refine⟨_,U,a,_,0,_,U,U,s4.seqT N,pI (j:=0) U,U,_,U,?_⟩;by_cases c8:h="do"
   · subst c8;cases (show some (["many"]:List Str)=some sl from HZ);have:F=[]:=List.length_eq_zero_iff.mp (by simpa using B);subst this;refine pK ?B ⟨_,U,a,_,1,_,U,U,s4.seqT N,pI (j:=1) U,vp,p,_,U,tp.same s4,iB,T.kit,_,U,?_⟩;cases ep:cA "tuple" p with
     | false=>exact aP (HY U (by rw[nY,<- lq,ep];rfl) _ s4)
     | true =>
     obtain⟨l,rfl⟩:=eZ ep;obtain⟨ap,xp,rfl,K7,hxp⟩:=tp.tup_of;refine aJ ⟨_,U,a,_,1,_,U,U,s4.seqT N,pI (j:=1) U,jl,λe0 he0=>⟨ap,e0,xp,U,U,(smu he0).seqT (s4.seqT K7),SqT.of pF,_,U,?_⟩⟩;have k5:=smu (o:=HO.tup []) he0;generalize upd H4 e0 (.tup [])=H5 at k5 ⊢;have s5:=s4.trans k5;have hpl:=hxp.length;rw[aC] at hsz;rw[dp] at IM;cases l with
     | nil =>
      have:xp=[]:=List.length_eq_zero_iff.mp hpl;rw[this];exact aP (HY U (by rw[nY];rfl) _ s5)
     | cons y l =>
      have Il:xp.isEmpty=false:=by cases xp with | nil=>cases hpl | cons _ _=>rfl
      rw[Il];have eg:fit (aX W Y) (m+1) G n u (.tuple [.str "do",.tuple (y::l)])=bz (fit (aX W Y) m G n) (y::l) u:=by
       rw[nY,if_pos]
       · rfl
       · show (true&&decide (0<(y::l).length))=true;rw[decide_eq_true (show 0<(y::l).length from Nat.succ_pos _)];rfl
      exact aJ ⟨_,U,a,_,1,_,U,U,s5.seqT N,pI (j:=1) U,_,U,_,U,_,U,_,U,H0,ap,_,xp,y::l,W,Y,os,R,Z,kd,kvs,G,u,n,U,L.go s5 ⟨k5 _ _ w4.k,k5 _ _ w4.l⟩ (Int.le_refl _),K7,hxp,λz hz=>(by have:=fP hz;omega),by omega,λH6 s6 hw6=>lev U eg H6 s6 hw6⟩
   refine pJ (by simp[c8]) (Ay _ _ (ab λGP Ax=>?_));refine⟨_,U,a,_,0,_,U,U,s4.seqT N,pI (j:=0) U,jk,λM2 hM2=>⟨M2,_,U,.inr (SqT.of pF),U,dB ["name","set"],_,U,?_⟩⟩;rw[show (inV (V.str h) [V.str "name",V.str "set"])=(["name","set"]:List Str).any (λy=>y==h) from eT h ["name","set"]];have k5:=smu (o:=HO.tup [V.str "name",V.str "set"]) hM2;generalize upd H4 M2 (.tup [V.str "name",V.str "set"])=H5 at k5 ⊢;have s5:=s4.trans k5;have hk5:=hk4.trans k5;have w5:cL H5 R Z u:=⟨k5 _ _ w4.k,k5 _ _ w4.l⟩;have hkd:=s5 _ _ L.kd_;cases c9:(["name","set"]:List Str).any (λy=>y==h) with
   | true =>
    simp only[List.any_cons,List.any_nil,Bool.or_false,Bool.or_eq_true,beq_iff_eq] at c9;have IH:(h="name"/\F=[])\/(h="set"/\∃ x,F=[x]):=by
     rcases c9 with rfl | rfl
     · cases (show some (["meant"]:List Str)=some sl from HZ);exact .inl ⟨U,List.length_eq_zero_iff.mp (by simpa using B)⟩
     · cases (show some (["meant","one"]:List Str)=some sl from HZ);obtain⟨x,rfl⟩:=dM (l:=F) (by simpa using B);exact .inr ⟨U,_,U⟩
    have egN:(isW p&&(G (aY p)).isSome)=false->fit (aX W Y) (m+1) G n u (.tuple (.str h::p::F))=none:=λe=>by
     have e3:(isW p&&eM G n (aY p))=false/\(isW p&&iM G n (aY p))=false:=by
      cases ew:isW p with
      | false=>exact⟨U,U⟩
      | true =>
       rw[ew,Bool.true_and] at e;cases ek:G (aY p) with
       | some _=>rw[ek] at e;cases e
       | none=>unfold eM iM;rw[ek];exact⟨U,U⟩
     rcases IH with ⟨rfl,rfl⟩ | ⟨rfl,x,rfl⟩
     · rw[lx,e3.1];rfl
     · rw[nU,e3.2];rfl
    refine aJ (ab λBZ Ik=>?_);refine⟨_,U,a,_,1,_,U,U,s5.seqT N,pI (j:=1) U,10,9,U,U,⟨by decide,by decide,by decide⟩,_,p,0,_,U,tp.same s5,by omega,λH6 s6=>⟨_,U,?_⟩⟩;have S:=s5.trans s6;cases e1':wIn 0 _ p with
    | false =>
     refine aJ (aJ (HY U (egN ?_) _ S));cases ew:isW p with
     | false=>rfl
     | true =>
      obtain⟨i,rfl⟩:=cV ew;cases ek:G i with
      | none=>show (true&&(G i).isSome)=false;rw[ek];rfl
      | some va =>
       obtain⟨t,_,_,h3,h4⟩:=L.kn_.yes i va.1 va.2 ek;exfalso;have e6:(decide (0<=i)&&decide (i<=1000000000))=false:=e1';rw[decide_eq_true h3,decide_eq_true ?A] at e6;cases e6
    | true =>
    obtain⟨i,rfl⟩:∃ i,p=.int i:=by cases p <;> first | exact⟨_,U⟩ | exact absurd (show false=true from e1') Bool.false_ne_true
    obtain rfl:=tp.int_of;have dgk:=dC.k (H:=H6) (a:=kd) (k:=.inl i) (s6 _ _ hkd);refine aP ⟨_,U,a,_,1,_,U,U,S.seqT N,pI (j:=1) U,_,U,kd,_,U,dgk,_,U,?_⟩;cases ek:G i with
    | none =>
     rw[L.kn_.no i ek];exact aJ (HY U (egN (by show (true&&(G i).isSome)=false;rw[ek];rfl)) _ S)
    | some va =>
    obtain⟨vv,aa⟩:=va;obtain⟨t,h1,h2',_,_⟩:=L.kn_.yes i vv aa ek;rw[h1];rw[h1] at dgk;have eg:fit (aX W Y) (m+1) G n u (.tuple (.str h::.int i::F))=if ((!vv||decide (aa=n))&&(!(decide (h="set"))||vv))=true then bz (fit (aX W Y) m G n) F u else none:=by
     rcases IH with ⟨rfl,rfl⟩ | ⟨rfl,x,rfl⟩
     · rw[lx];unfold eM;rw[show aY (.int i)=i from rfl,ek];show (if (true&&(!vv||decide (aa=n)))=true then some u else none)=if ((!vv||decide (aa=n))&&(!false||vv))=true then some u else none
       cases vv <;> cases decide (aa=n) <;> rfl
     · rw[nU];unfold iM;rw[show aY (.int i)=i from rfl,ek];show (if (true&&(vv&&decide (aa=n)))=true then _ else none)=if ((!vv||decide (aa=n))&&(!true||vv))=true then _ else none
       cases vv <;> cases decide (aa=n) <;> rfl
    refine aP (Ik _ _ (ab λFP IZ=>?_));refine⟨_,U,_,U,a,_,1,_,U,U,S.seqT N,pI (j:=1) U,kd,_,U,dgk,t,_,U,SqT.of (S _ _ h2'),U,_,_,U,_,_,U,U,?_⟩;refine IZ _ _ (ab λHA Jn=>?_);have w6:cL H6 R Z u:=⟨s6 _ _ w5.k,s6 _ _ w5.l⟩;have hk6:=hk5.trans s6;have no:((!vv||decide (aa=n))&&(!(decide (h="set"))||vv))=false->Q (.bl false) H6:=λe=>by
     rw[e] at eg;exact HY U eg _ S
    have pass:((!vv||decide (aa=n))&&(!(decide (h="set"))||vv))=true->HA ([some (V.ref a),some vc,some (V.ref R),some (V.ref kd),some (V.int ((n:Nat):Int)),some (V.ref pd),some (V.bl vv),some (V.int ((aa:Nat):Int))]:L2.St) H6:=λe=>by
     rw[e] at eg;refine Jn _ _ ?_;rw[gr];refine⟨_,U,?_⟩;rw[dD];refine⟨2,U,?_⟩;refine⟨a,_,U,S.seqT N,λz=>(by have:=congrArg List.length z;rw[Fl] at this;simp only[List.length_cons] at this;omega),λps Jj=>?_⟩;rw[Fl];have k7:=smu (o:=HO.tup xt) Jj;have hp7:(upd H6 ps (.tup xt)) ps=some (.tup xt):=pF;generalize upd H6 ps (.tup xt)=H7 at k7 hp7 ⊢;have w7:cL H7 R Z u:=⟨k7 _ _ w6.k,k7 _ _ w6.l⟩;have s07:=S.trans k7;have so7:aA H0 (off R Z H7):=kT s07 L.z1 L.z2;have L7:Ls K (off R Z H7) H7 vc W Y os R Z kd kvs G u:=⟨dF,iu,nJ,L.ne,w7,L.core.same so7,L.okf,L.okr,so7 _ _ L.kd_,L.kn_.same so7 (Int.le_refl _),L.nn⟩;have hat:off R Z H7 ps=some (.tup xt):=dY hp7 (λz=>(by rw[z,w6.k] at Jj;cases Jj)) (λz=>(by rw[z,w6.l] at Jj;cases Jj));exact⟨_,U,_,U,_,U,_,U,off R Z H7,ps,_,xt,F,W,Y,os,R,Z,kd,kvs,G,u,n,U,L7,.inl (.inl hat),ht.same so7,hdt,by omega,λH8 s8 hw8=>lev U eg H8 (so7.trans s8) hw8⟩
    refine⟨_,U,_,U,?_⟩;cases vv with
    | false =>
     refine aP (aP ⟨_,U,a,_,0,_,U,U,S.seqT N,pI (j:=0) U,U,_,U,?_⟩);by_cases O:h="set"
     · exact pK (by simp[O]) ⟨_,U,_,U,aJ (no (by rw[decide_eq_true O];simp))⟩
     · exact pJ (by simp[O]) (aP (pass (by rw[decide_eq_false O];simp)))
    | true =>
     refine aJ ⟨_,U,_,U,U,_,U,?_⟩;by_cases han:aa=n
     · refine pJ (by simp[han]) (⟨_,U,a,_,0,_,U,U,S.seqT N,pI (j:=0) U,U,_,U,?_⟩);by_cases O:h="set"
       · exact pK (by simp[O]) ⟨_,U,_,U,aP (pass (by rw[decide_eq_true han];simp))⟩
       · exact pJ (by simp[O]) (aP (pass (by rw[decide_eq_true han];simp)))
     · exact pK ?Q (aJ (no (by rw[decide_eq_false han];rfl)))
   | false =>
   refine aP (Ax _ _ (ab λGR zF=>?_));refine⟨_,U,a,_,0,_,U,U,s5.seqT N,pI (j:=0) U,Bc,λM3 K6=>⟨M3,_,U,.inr (SqT.of pF),U,dB ["let","var","each","fun"],_,U,?_⟩⟩;rw[show (inV (V.str h) [V.str "let",V.str "var",V.str "each",V.str "fun"])=(["let","var","each","fun"]:List Str).any (λy=>y==h) from eT h ["let","var","each","fun"]];have k6:=smu (o:=HO.tup [V.str "let",V.str "var",V.str "each",V.str "fun"]) K6;generalize upd H5 M3 (.tup [V.str "let",V.str "var",V.str "each",V.str "fun"])=H6 at k6 ⊢;have s6:=s5.trans k6;have w6:cL H6 R Z u:=⟨k6 _ _ w5.k,k6 _ _ w5.l⟩;have hdp':dp (.tuple (.str h::p::F))<=m+1:=by rw[dp,dps,dps];exact IM
   have hsz':u.1+u.2.length+wt (.tuple (.str h::p::F))<=200000:=by rw[aC,wts,wts];exact hsz
   cases c10:(["let","var","each","fun"]:List Str).any (λy=>y==h) with
   | true =>
    have form:(∃ h' p' q' r',h'∈lve/\PyData.tuple (.str h::p::F)=.tuple [.str h',p',q',r'])\/∃ p' q',PyData.tuple (.str h::p::F)=.tuple [.str "fun",p',q']:=by
     simp only[List.any_cons,List.any_nil,Bool.or_false,Bool.or_eq_true,beq_iff_eq] at c10
     rcases c10 with rfl | rfl | rfl | rfl
     · cases (show some (["bound","one","one"]:List Str)=some sl from HZ);obtain⟨x,y,rfl⟩:=f8 (l:=F) (by simpa using B);exact .inl ⟨_,_,_,_,by simp[lve],U⟩
     · cases (show some (["bound","one","one"]:List Str)=some sl from HZ);obtain⟨x,y,rfl⟩:=f8 (l:=F) (by simpa using B);exact .inl ⟨_,_,_,_,by simp[lve],U⟩
     · cases (show some (["bound","one","one"]:List Str)=some sl from HZ);obtain⟨x,y,rfl⟩:=f8 (l:=F) (by simpa using B);exact .inl ⟨_,_,_,_,by simp[lve],U⟩
     · cases (show some (["bounds","one"]:List Str)=some sl from HZ);obtain⟨x,rfl⟩:=dM (l:=F) (by simpa using B);exact .inr ⟨_,_,U⟩
    exact aJ ⟨_,U,_,U,_,U,_,U,_,U,H0,_,_,_,W,Y,os,R,Z,kd,kvs,G,u,n,U,L.go s6 w6 (Int.le_refl _),td,hdp',hsz',form,λI s' hw'=>q I s' hw'⟩
   | false =>
   refine aP (zF _ _ ?_);have form:(∃ p' q' r',PyData.tuple (.str h::p::F)=.tuple [.str "get",p',q',r'])\/∃ h' p' q',h'∈hd4/\PyData.tuple (.str h::p::F)=.tuple [.str h',p',q']:=by
    have hm:=fJ HZ;simp only[tbl,List.mem_cons,nMN,or_false,Prod.mk.injEq] at hm
    rcases hm with ⟨rfl,rfl⟩ | ⟨rfl,rfl⟩ | ⟨rfl,rfl⟩ | ⟨rfl,rfl⟩ | ⟨rfl,rfl⟩ | ⟨rfl,rfl⟩ | ⟨rfl,rfl⟩ | ⟨rfl,rfl⟩ | ⟨rfl,rfl⟩ | ⟨rfl,rfl⟩ | ⟨rfl,rfl⟩ | ⟨rfl,rfl⟩ | ⟨rfl,rfl⟩ | ⟨rfl,rfl⟩ | ⟨rfl,rfl⟩ | ⟨rfl,rfl⟩ | ⟨rfl,rfl⟩
    all_goals first
     | exact absurd rfl c5
     | exact absurd rfl c6
     | exact absurd rfl c8
     | exact absurd (show true=false from c7) (by decide)
     | exact absurd (show true=false from c9) (by decide)
     | exact absurd (show true=false from c10) (by decide)
     | (have e2:F.length=2:=Nat.succ.inj B
        obtain⟨x,y,rfl⟩:=f8 e2;exact .inl ⟨_,_,_,U⟩)
     | (have e2:F.length=1:=Nat.succ.inj B
        obtain⟨x,rfl⟩:=dM e2;exact .inr ⟨_,_,_,by simp[hd4],U⟩)
   exact⟨_,U,_,U,_,U,_,U,_,U,H0,_,_,_,W,Y,os,R,Z,kd,kvs,G,u,n,U,L.go s6 w6 (Int.le_refl _),td,hdp',hsz',form,λI s' hw'=>q I s' hw'⟩
def BR (f:Def K J "_law_all" sLl) (d:Def K J "_law_fits" sLf) (g:Def K J "_law_fits_binder" sLb) (h:Def K J "_law_fits_many" sLm) (T:Blt K J) (b:Fn P w K J base "_law_whole" 1 ["_law_thing","_law_least","_law_most"] (lK K)) (i:Fn P w K J base "_law_is_word" 1 ["_law_thing"] (spA fW K)):∀ m:Nat,Fn P w K J base "_law_fits" (3*m+2) psL (oK m K):=by
 intro m
 induction m with
 | zero=>exact BT d
 | succ m j =>
  have e:3*(m+1)+2=(3*m+1)+4:=by omega
  rw[e];have a:=j;have c:=Ez f a;exact EB d T b i c (EC g T b a c) (Ey h T b a c)
end
def Wl (R:Int->Int->Prop):Nat->Int->Prop
  | 0,_=>True
  | k+1,c=>∃ d,R c d/\Wl R k d
def Wl.less {R:Int->Int->Prop}:∀ {k:Nat} {c:Int},Wl R (k+1) c->Wl R k c
 | 0,_,_=>trivial
 | k+1,c,⟨d,h1,h2⟩=>⟨d,h1,Wl.less h2⟩
def Rch.head (h:Rch R x z):x=z\/∃ y,R x y/\Rch R y z:=by
 induction h with
 | refl=>exact .inl U
 | @step y z h e d =>
  right
  rcases d with rfl | ⟨a,c,b⟩
  · exact⟨_,e,.refl⟩
  · exact⟨a,c,.step b e⟩
def Rch.cons {R:Int->Int->Prop} {x y z:Int} (e:R x y) (h:Rch R y z):Rch R x z:=by
 induction h with
 | refl=>exact .step .refl e
 | step _ a b=>exact .step b a
def jr {R:Int->Int->Prop} {a b:Int} (h1:R a b) (h2:Rch R b a):∀ (k:Nat) {x:Int},Rch R x a->Wl R k x
 | 0,_,_=>trivial
 | k+1,x,h=>by
  rcases h.head with rfl | ⟨y,h3,h4⟩
  · exact⟨b,h1,jr h1 h2 k h2⟩
  · exact⟨y,h3,jr h1 h2 k h4⟩
def me {R:Int->Int->Prop} (ac:∀ a b,R a b->¬ Rch R b a):∀ {k:Nat} {a:Int},Wl R k a->∃ l:List Int,l.length=k/\l.Nodup/\∀ x∈l,∃ b c,R a b/\Rch R b x/\R c x
 | 0,a,_=>⟨[],U,List.nodup_nil,λx h=>by cases h⟩
 | k+1,a,⟨d,h1,h2⟩=>by
  obtain⟨l,hl,nd,hm⟩:=me ac h2;refine⟨d::l,by rw[List.length_cons,hl],List.nodup_cons.mpr ⟨λz=>?_,nd⟩,λx hx=>?_⟩
  · obtain⟨b,_,e1,e2,_⟩:=hm d z;exact ac d b e1 e2
  · rcases List.mem_cons.mp hx with rfl | hx
    · exact⟨x,a,h1,.refl,h1⟩
    · obtain⟨b,c,e1,e2,e3⟩:=hm x hx;exact⟨d,c,h1,Rch.cons e1 e2,e3⟩
def cR (cs:List (List Int)) (i:Int):List Int:=(plc cs i).getD []
def jY (cs:List (List Int)):List (List Int):=cs.map λr=>r.filter λc=>!(cR cs c).isEmpty
def bX (cs:List (List Int)):Nat->List (List Int)
  | 0=>cs
  | k+1=>jY (bX cs k)
def Er (cs:List (List Int)) (i c:Int):Prop:=c∈cR cs i
def fR (cs:List (List Int)):∀ k,(bX cs k).length=cs.length
 | 0=>rfl
 | k+1=>by show (jY (bX cs k)).length=_;unfold jY;rw[lMp,fR cs k]
def qC (a:List (List Int)) (i:Int):cR (jY a) i=(cR a i).filter λc=>!(cR a c).isEmpty:=by
 unfold jY;show (plc (a.map _) i).getD []=_;rw[eB];unfold cR;cases plc a i <;> rfl
def fh (cs:List (List Int)):∀ (k:Nat) (i c:Int),c∈cR (bX cs k) i↔Er cs i c/\Wl (Er cs) k c
 | 0,i,c=>⟨λh=>⟨h,trivial⟩,λh=>h.1⟩
 | k+1,i,c=>by
  show c∈cR (jY (bX cs k)) i↔_;rw[qC,List.mem_filter,fh cs k i c];have Il:(!(cR (bX cs k) c).isEmpty)=true↔∃ d,Er cs c d/\Wl (Er cs) k d:=by
   constructor
   · intro h;cases e:cR (bX cs k) c with
     | nil=>rw[e] at h;cases h
     | cons d r =>
      have:d∈cR (bX cs k) c:=by rw[e];exact mCS ..
      exact⟨d,(fh cs k c d).mp this⟩
   · rintro⟨d,h⟩;have:=(fh cs k c d).mpr h;cases e:cR (bX cs k) c with
     | nil=>rw[e] at this;cases this
     | cons d r=>rfl
  rw[Il];exact⟨λh=>⟨h.1.1,h.2⟩,λh=>⟨⟨h.1,Wl.less h.2⟩,h.2⟩⟩
def iS {l:List α}:plc l ((j:Nat):Int)=l[j]?:=by
 unfold plc;rw[if_pos ?A,Int.toNat_natCast]
def tY (d:List (List Int)) (m:∀ i c,Er d i c->∃ j:Nat,c=((j:Nat):Int)/\j<d.length):(∀ r∈bX d d.length,r=[])↔∀ a b,Er d a b->¬ Rch (Er d) b a:=by
 constructor
 · intro h a b n g;have f:=(fh d d.length a b).mpr ⟨n,jr n g _ g⟩;unfold cR at f;cases e:plc (bX d d.length) a with
   | none=>rw[e] at f;cases f
   | some r =>
    rw[e] at f;obtain⟨j,_,k⟩:=dW e;rw[h r (mGE k)] at f;cases f
 · intro w r s;cases r with
   | nil=>rfl
   | cons c r =>
    exfalso;obtain⟨j,k⟩:=List.getElem?_of_mem s;have f:c∈cR (bX d d.length) ((j:Nat)):=by
     unfold cR;rw[iS,k];exact mCS ..
    obtain⟨p,v⟩:=(fh d _ _ _).mp f;obtain⟨l,z,t,q⟩:=me w (show Wl (Er d) (d.length+1) ((j:Nat)) from ⟨c,p,v⟩);have:=kI t λx o=>by
     obtain⟨_,u,_,_,y⟩:=q x o;exact m u x y
    omega
end K13
set_option maxHeartbeats 800000
namespace K13
open PySem L2 PySem.Spec PyProof.Rows PySem.SeqAt
def d9 (fs:PDs) (f:PyData):List Int:=if bu f="function" then (bm (cU 40 (gF f))).filter λb=>decide (((plc fs b).map bu)=some "function") else []
inductive Rows (H:Hp):List V->List (List Int)->Prop
  | nil:Rows H [] []
  | cons {r:Addr} {l:List Int} {ys:List V} {css:List (List Int)} (h:H r=some (.lst (l.map V.int))) (t:Rows H ys css):Rows H (.ref r::ys) (l::css)
def Rows.same (s:aA H H') (h:Rows H ys css):Rows H' ys css:=by
 induction h with
 | nil=>exact .nil
 | cons h _ a=>exact .cons (s _ _ h) a
def Rows.snoc (h:Rows H ys css) (a:H r=some (.lst (l.map V.int))):Rows H (ys++[.ref r]) (css++[l]):=by
 induction h with
 | nil=>exact .cons a .nil
 | cons h _ b=>exact .cons h b
def Rows.length (h:Rows H ys css):ys.length=css.length:=by
 induction h with
 | nil=>rfl
 | cons _ _ a=>rw[List.length_cons,List.length_cons,a]
def Rows.get {H:Hp} {ys:List V} {a:List (List Int)} (h:Rows H ys a):∀ {i:Nat} {x:V},ys[i]?=some x->∃ r l,x=.ref r/\a[i]?=some l/\H r=some (.lst (l.map V.int)):=by
 induction h with
 | nil=>intro i x z;cases z
 | @cons r l ys a h t ih =>
  intro i x z;cases i with
  | zero=>cases z;exact⟨r,l,U,U,h⟩
  | succ i=>exact ih z
def jM {cs:List (List Int)} {N:Nat} (h:∀ r∈cs,r.length<=N):∀ k,∀ r∈bX cs k,r.length<=N
 | 0,r,hr=>h r hr
 | k+1,r,hr=>by
  obtain⟨r',IX,rfl⟩:=List.mem_map.mp (show r∈(bX cs k).map _ from hr);exact Nat.le_trans (List.length_filter_le _ _) (jM h k r' IX)
def qB (w:WFx 40 (gF f)):(d9 fs f).length<=wt (gF f):=by
 unfold d9;split
 · exact Nat.le_trans (List.length_filter_le _ _) (Nat.le_trans (jH _) (nA w))
 · exact Nat.zero_le _
def kO (fs:PDs) (a b:Int):Er (fs.map (d9 fs)) a b↔Pl fs a b:=by
 unfold Er cR;rw[eB];constructor
 · intro h;cases e:plc fs a with
   | none=>rw[e] at h;cases h
   | some f =>
    rw[e] at h;have c:b∈d9 fs f:=h;unfold d9 at c;split at c
    · rename_i i
      rw[List.mem_filter] at c;obtain⟨j,rfl,d⟩:=dW e;obtain⟨g,l,k⟩:=oMS.mp (of_decide_eq_true c.2);exact⟨j,f,g,d,U,i,c.1,l,k⟩
    · cases c
 · rintro⟨j,f,g,d,rfl,i,m,l,k⟩;rw[iS,d];show b∈d9 fs f;unfold d9;rw[if_pos i,List.mem_filter];exact⟨m,decide_eq_true (by grind)⟩
section
variable {P:Program} {w:World} {K:Fg} {I:SOV} {base:Heap}
abbrev sDu:Stmt:=top 58
abbrev nDu:List Str:=["_law_core_here","_law_calls","_law_one","_law_walk","_law_known","_law_k"]
def jw (s:aA H H') (h:H' x=none):H x=none:=by
 cases e:H x with
 | none=>rfl
 | some o=>rw[s _ _ e] at h;cases h
def bB (n:Nat):(L2.bN 0 n).length=n:=by simp[L2.bN]
def hV {x:V} (h:(L2.bN 0 n)[i]?=some x):x=.int ?J:=by
 unfold L2.bN at h;rw[gEM] at h;obtain⟨j,a,rfl⟩:=oMS.mp h;obtain⟨_,e⟩:=gES.mp a;rw[List.getElem_range] at e;rw[<- e];simp
def KnR.tup {H b:Hp} {kvs:List (Key×V)} {kn:Kn} {nx:Int} (h:KnR H kvs kn nx) (s:∀ t bs,H t=some (.tup bs)->b t=some (.tup bs)):KnR b kvs kn nx :=
 ⟨λx v a e=>by obtain⟨t,f,g,c,d⟩:=h.yes x v a e;exact⟨t,f,s _ _ g,c,d⟩,h.no,h.few⟩
def gR (fs:PDs) (hh:Str) (b:Int):Bool:=decide (hh="function")&&decide (((plc fs b).map bu)=some "function")
def yR (fs:PDs) (a:Str) (c:Int) (b:PyData):(bm (cU 40 b)).filter (gR fs a)=d9 fs (.tuple [.str a,.int c,b]):=by
 unfold d9;show _=if a="function" then (bm (cU 40 b)).filter _ else []
 by_cases e:a="function"
 · rw[if_pos e];congr 1
   funext x
   unfold gR;rw[decide_eq_true e,Bool.true_and]
 · rw[if_neg e];have:gR fs a=λ_=>false:=by funext x;unfold gR;rw[decide_eq_false e,Bool.false_and]
   rw[this];exact List.filter_eq_nil_iff.mpr λ_ _=>Bool.false_ne_true
def DN:aM nDu ["_law_core_here"] (ad sDu):=fsM
def GI:(["_law_other","_law_one","_law_core_here"]:List Str).Nodup:=by left
def GF:(["_law_row","_law_calls"]:List Str).Nodup:=by left
def GG:(["_law_one","_law_calls"]:List Str).Nodup:=by left
def EL (D:Def K I "_law_due" sDu) (T:Blt K I) (rq:Fn P w K I base "_law_face" 2 ["_law_core_here"] (yN K)) (dz:Fn P w K I base "_law_fits" 122 psL (oK 40 K)):Fn P w K I base "_law_due" 123 ["_law_core_here"] (yL K):=by
 refine D.fn DN ?P (λ_ _ _ _ _ _ us hl=>by obtain⟨a,rfl⟩:=dM hl;rfl) ?X
 · ext j
 · obtain⟨v,d,rfl,td,J7,IM,ho,q⟩:=h;have nd:=DN.nd;have hu:=dN hr;ext d
   refine⟨_,(pE (aE (aU (aQ (aB rq ?S U (pA ?C pC)))) ?O am)
 (pE (pN (i:=1) nd U (Or.inr U) (bb pC))
 (pE (cu PassesOwn.never U (cI ?I) (ax (i:=2) nd U (Or.inr U))
 (pE (pN (i:=3) nd U ?D (bb (pA (aj ae (pv 2) pG ?H) (pA (bb pC) pC))))
 (@pE _ _ _ _ _ (@pN _ _ 4 _ _ _ _ nd U ?D fT ?K (by first | exact .inl U | exact .inr U))
 (pE (cu PassesOwn.never U (bE U T.range (pA (aj ae (pv 2) pG ?H) pC)) (ax (i:=5) nd U ?D)
 (pH (dr hu (pv 4) (pv 5) (aN (pA bf (pA pG pC))) U)))
 (pE (aE (aU (aQ (aB dz ?S U (pA (aj ae (pv 2) pG ?H) (pA ?C (pA (pv 3) (pA (pv 4) (pA pG pC)))))))) ?O am)
 (pH (cY (dL ?E (pA (cO (own:=["_law_other"]) (outs:=[(2,"_law_one"),(0,"_law_core_here")]) (tc:=Bo (dA (tOp rEq (tOp (fN K) (cw 1) (tC (.int 0))) (tC (.str "function")))) (dA (tOp rEq (tOp (fN K) (tOp (fN K) (tOp (fN K) (cw 2) (tC (.int 0))) (cw 0)) (tC (.int 0))) (tC (.str "function"))))) U (aG.of (ad sDu) nDu) (eC (aj b8 (pv 3) pG ?H)) (λ_ _ _ _=>⟨(ax (i:=0) GI U ?D),(bM (PW.pt (dw (pP aZ (aj ae ?E pG ?H) pD (pQ _)) (cX (pP aZ (aj ae (aj ae (aj ae (pv 2) pG ?H) ?C ?H) pG ?H) pD (pQ _)))))),?C⟩)) pC)))))))))
 (pE (cu PassesOwn.never U (bE U T.range (pA (bq T.len (pA ?E pC)) pC)) (ax (i:=5) nd U ?D)
 (pH (pN (i:=1) nd U (Or.inr U) (cO (own:=["_law_row"]) (outs:=[(1,"_law_calls")]) (te:=tLC (wX K (cw 0)) 1 [(1,"_law_calls")] (cP 0) (dA (tOp (yW K) (tOp (oP K) (cw 1) (cw 0)) (vn lJ))) (cw 0)) U (aG.of (ad sDu) nDu) (eC ?E) (λ_ _ _ _=>⟨(ax (i:=0) GF U ?D),bC,(cO (own:=["_law_one"]) (outs:=[(1,"_law_calls")]) (tc:=(dA (tOp (yW K) (tOp (oP K) (cw 1) (cw 0)) (vn lJ)))) U (aG.of _ ["_law_row","_law_calls"] U U U (by left) (by left) (by intro y hy hf;simp only[List.mem_cons,nMN,or_false] at hy;rcases hy with rfl | rfl | rfl <;> first | exact .inl U | cases hf) (by left) (by intro p hp;cases mSg.mp hp;exact⟨U,.inl U⟩)) (eC ?C) (λ_ _ _ _=>⟨(ax (i:=0) GG U ?D),(bM (pP (ir hu) (aj b8 ?E ?C ?H) (bb pC) (pQ _))),?C⟩))⟩)))))
 (pH (ak (bL (wG hu) (cO (own:=["_law_row"]) (outs:=[]) (tc:=dA (tOp (yW K) (cw 0) (vn lJ))) U (aG.of (ad sDu) nDu) (eC ?E) (λ_ _ _ _=>⟨(ax (i:=0) (nd1 _) U ?D),(bM (pP (ir hu) ?C (bb pC) (pQ _))),?C⟩)) (bb pC) (pQ _)))))))),?_⟩
   ext b;refine ab λsw jB=>?_;refine⟨_,U,v,d,U,td,by omega,ho,λb H1 s1 hb=>⟨_,U,?_⟩⟩;cases b with
   | false =>
    refine aJ (q false H1 s1 ⟨λz=>(by cases z),λz=>?_⟩);obtain⟨G,rs,os,e,hf,_⟩:=z.ex;exact hb.mpr ⟨G,rs,os,e,hf⟩
   | true =>
   obtain⟨G,rs,os,rfl,hf⟩:=hb.mp rfl;refine aP (jB _ _ (ab λjP f9=>?_));obtain⟨a,x,y,z,rfl,ha,hx,hy,hz⟩:=gD td;obtain⟨af,xf,rfl,Ir,IB⟩:=hx.tup_of;rw[aC,wts,wts,wts,wts,aC] at J7;rw[dp,dps,dp] at IM;have un:∀ {A:Prop},(∃ fs' rs' os',PyData.tuple [.tuple G,.tuple rs,.tuple os]=.tuple [.tuple fs',.tuple rs',.tuple os']/\gA fs' rs' os'/\(∀ f∈fs',eL fs' rs' f=true)/\∀ a b,Pl fs' a b->¬ Rch (Pl fs') b a)->((∀ f∈G,eL G rs f=true)/\∀ a b,Pl G a b->¬ Rch (Pl G) b a):=λh=>by
    obtain⟨_,_,_,e,_,h2⟩:=h;cases e;exact h2
   refine⟨jl,λC hC=>?_⟩;have kC:=smu (o:=HO.lst []) hC;have hC1:(upd H1 C (.lst [])) C=some (.lst []):=pF;have z1:H1 C=none:=hC;generalize upd H1 C (.lst [])=H2 at kC hC1 ⊢;have s12:=s1.trans kC;ext q;refine⟨_,U,a,_,0,_,U,U,s12.seqT ha,pI (j:=0) U,af,U,⟨xf,s12.seqT Ir⟩,?_⟩;show aV _ _ _ _ _ _;refine aV.by (cq (xs:=xf)) (λi σ Z=>aA H1 Z/\(∃ ys,Z C=some (.lst ys)/\Rows (off C C Z) ys ((G.take i).map (d9 G)))/\(∀ f∈G.take i,eL G rs f=true)/\∃ x2 x3 x4 x5,σ=[some (.ref a),some (.ref C),x2,x3,x4,x5]) ⟨kC,⟨[],hC1,.nil⟩,λf hf=>by simp at hf,_,_,_,_,U⟩ (λi σ Z _ h=>(s1.trans h.1).seqT Ir) ?_ ?_
   · rintro i u σ Z JT ⟨si,⟨ys,Kf,B⟩,HP,x2,x3,x4,x5,rfl⟩;obtain⟨fd,IT,tf⟩:=IB.get JT;have hfm:=mGE IT;obtain⟨hh,c,b,rfl,_,c0,c4⟩:=eI (hf.fn fd hfm);have hwm:=cM hfm;have hdm:=fP hfm;rw[aC,wts,wts,wts] at hwm;rw[dp,dps,dps,dps] at hdm;obtain⟨ua,y0,y1,y2,rfl,hu3,t0,t1,t2⟩:=gD tf;obtain rfl:=t0.str_of;obtain rfl:=t1.int_of;have s0i:=s1.trans si;rw[aL];refine ab λHJ Iy=>?_;refine⟨_,U,ua,_,1,_,U,U,s0i.seqT hu3,pI (j:=1) U,jl,λS hwl=>⟨jk,λwk hwk=>?_⟩⟩;have k1:=smu (o:=HO.lst []) hwl;have k2:=smu (o:=HO.lst [V.int c,V.ref S]) hwk;have hwl2:=k2 _ _ (pF (H:=Z) (a:=S) (o:=HO.lst []));have hwk2:=pF (H:=upd Z S (.lst [])) (a:=wk) (o:=HO.lst [V.int c,V.ref S]);have hwki:=jw k1 hwk;have newk:wk≠S:=λz=>by rw[z,pF] at hwk;cases hwk
     have k12:=k1.trans k2;generalize upd (upd Z S (.lst [])) wk (.lst [V.int c,V.ref S])=H5 at k12 hwl2 hwk2 ⊢;clear k1 k2 hwk;refine Iy _ _ (ab λBZ Ik=>?_);refine λkd hkd=>Ik _ _ (ab λFP IZ=>?_);have k3:=smu (o:=HO.dK []) hkd;have s05:=(s0i.trans k12).trans k3;refine⟨_,U,ua,_,1,_,U,U,s05.seqT hu3,pI (j:=1) U,_,U,by omega,by omega,?_⟩;show aV _ _ _ _ _ _;refine aV.by (bo (lo:=0) (n:=c.toNat)) (λj σ J=>aA H5 J/\(∃ kvs,J kd=some (.dK kvs)/\KnR J kvs (cS (λ_=>none) false 0 (rgI 0 j)) ((j:Nat):Int))/\∃ x5,σ=[some (.ref a),some (.ref C),some (.ref ua),some (.ref wk),some (.ref kd),x5]) ⟨k3,⟨[],pF,⟨λx v a e=>(by cases e),λx _=>rfl,Int.le_refl _⟩⟩,_,U⟩ (λ_ _ _ _ _=>trivial) ?_ ?_
     · rintro j x σ J hx ⟨sj,⟨kvs,Kr,hkn⟩,HS,rfl⟩;obtain rfl:=hV hx;have hj:j<c.toNat:=by have:=(gES.mp hx).1;rwa [bB] at this
       have hfw:=hkn.few;rw[aL];refine⟨jk,λt ht=>?_⟩;have k4:=smu (o:=HO.tup [V.bl false,V.int 0]) ht;have hkt:=k4 _ _ Kr;refine⟨_,U,_,U,kd,_,U,gY.k (k:=.inl ((j:Nat):Int)) hkt ?A,?_⟩;refine⟨aK (sj.trans k4) hkd,⟨_,pF,?_⟩,_,U⟩;rw[gJ,kX,Int.zero_add];exact hkn.put (λt' bs e=>by rw[ai (λz=>by rw[z,Kr] at e;cases e)];exact k4 _ _ e) (a:=0) (by rw[ai (aD Kr ht).symm];exact pF) (Int.natCast_nonneg j)
     · rintro σ H6 ⟨s6,⟨kvs,hk6,hkn⟩,HS,rfl⟩;rw[bB,Int.toNat_of_nonneg c0] at hkn;refine IZ _ _ (ab λHA Jn=>?_);have s06:=(s0i.trans k12).trans s6;have hwl6:=s6 _ _ hwl2;have hwk6:=s6 _ _ hwk2;have z1:H wk=none:=jw s0i hwki;have z2:H S=none:=jw s0i hwl;have so6:aA H (off wk S H6):=kT s06 z1 z2;have nk:kd≠wk:=λz=>by rw[z,hwk2] at hkd;cases hkd
       have nl:kd≠S:=λz=>by rw[z,hwl2] at hkd;cases hkd
       have L:Ls K (off wk S H6) H6 (.ref a) G rs os wk S kd kvs (kn0 c) (c,[]):=⟨dF,iu,nJ,newk,⟨hwk6,hwl6⟩,td.same so6,hf.fn,hf.rc,dY hk6 nk nl,hkn.tup λt bs e=>dY e (λz=>by rw[z,hwk6] at e;cases e) (λz=>by rw[z,hwl6] at e;cases e),c0⟩;have ebf:eL G rs (.tuple [.str hh,.int c,b])=(fit (aX G rs) 40 (kn0 c) 0 (c,[]) b).isSome:=rfl;refine⟨_,U,ua,_,2,_,U,U,s06.seqT hu3,pI (j:=2) U,_,U,_,U,_,U,off wk S H6,y2,.ref a,b,G,rs,os,wk,S,kd,kvs,kn0 c,(c,[]),0,U,L,t2.same so6,by omega,by show c+0+_<=_;omega,λH7 s7 hw7=>⟨_,U,?_⟩⟩;have s07:=so6.trans s7;cases hft:fit (aX G rs) 40 (kn0 c) 0 (c,[]) b with
       | none =>
        rw[hft] at ebf;refine aJ (q false H7 s07 ⟨λz=>(by cases z),λz=>?_⟩);rw[(un (A:=True) z.ex).1 _ hfm] at ebf;cases ebf
       | some u2 =>
       rw[hft] at ebf;refine aP (Jn _ _ ?_);obtain⟨hwk7,hwl7⟩:=hw7 u2 hft;have ecs:u2.2=bm (cU 40 b):=mJ hft;have neCk:C≠wk:=aD Kf hwki;have neCl:C≠S:=aD Kf hwl;have si7:∀ x o,x≠wk->x≠S->Z x=some o->H7 x=some o:=λx o n1 n2 e=>s7 _ _ (dY (s6 _ _ (k12 _ _ e)) n1 n2);have hC7:=si7 _ _ neCk neCl Kf;refine⟨_,U,.inl ⟨U,_,SqL.of hC7⟩,?_⟩;rw[dq,bU];refine⟨_,U,wk,_,1,_,U,U,SqL.of hwk7,pI (j:=1) U,S,U,⟨_,SqL.of hwl7⟩,λM hM=>?_⟩;have kM:=smu (o:=HO.lst []) hM;have hlen:u2.2.length<=1000000:=by have:=(j5 hft).2;simp only[List.length_nil] at this;have:=(j5 hft).1;omega
       refine bj.by (bR (xs:=u2.2.map V.int)) (λt O Ht=>aA H7 Ht/\Ht M=some (.lst (((u2.2.take t).filter (gR G hh)).map V.int))/\∃ y,O=[y,some (.ref ua),some (.ref a)]) ⟨kM,pF,_,U⟩ (λt O Ht _ h=>SqL.of (h.1 _ _ hwl7)) ?_ ?_
       · rintro t x O Ht hxt ⟨st,JW,y',rfl⟩;rw[gEM] at hxt;obtain⟨c',JA,rfl⟩:=oMS.mp hxt;have W:(u2.2.take (t+1))=u2.2.take t++[c']:=by rw[tAO,JA];rfl
         have Jg:c'∈bm (cU 40 b):=by rw[<- ecs];exact mGE JA
         obtain⟨m,rfl,gd,hgd⟩:∃ m:Nat,c'=((m:Nat):Int)/\∃ gd,G[m]?=some gd:=by
          have:=jQ hft c' Jg;rw[show (aX G rs).F=G.map λf=>(bu f,aY (p0 f)) from rfl,eB,Option.isSome_map] at this;obtain⟨gd,hg⟩:=Option.isSome_iff_exists.mp this;obtain⟨m,e,hm⟩:=dW hg;exact⟨m,e,gd,hm⟩
         obtain⟨vg,hvg,tg⟩:=IB.at hgd;obtain⟨hg,cg,bg,rfl,_,_,_⟩:=eI (hf.fn gd (mGE hgd));obtain⟨ug,z0,z1',z2',rfl,hug,tg0,_,_⟩:=gD tg;obtain rfl:=tg0.str_of;have s0t:=s07.trans st;have ecb:gR G hh ((m:Nat):Int)=(decide (hh="function")&&decide (hg="function")):=by
          unfold gR;rw[iS,hgd];congr 1;show decide (some hg=some ("function":Str))=_;simp
         have J5:gR G hh ((m:Nat):Int)=false->aA H7 Ht/\Ht M=some (HO.lst (List.map V.int (List.filter (gR G hh) (List.take (t+1) u2.snd))))/\∃ y,[y',some (V.ref ua),some (V.ref a)].set 0 (some (V.int ((m:Nat):Int)))=[y,some (V.ref ua),some (V.ref a)]:=λe=>⟨st,by rw[W,List.filter_append,JW];simp[e],_,U⟩;rw[aL];refine⟨_,U,ua,_,0,_,U,U,s0t.seqT hu3,pI (j:=0) U,U,_,U,?_⟩;by_cases e1:hh="function"
         · refine pK (by simp[e1]) ⟨_,U,a,_,0,_,U,U,s0t.seqT ha,pI (j:=0) U,_,U,af,xf,_,_,U,U,s0t.seqT Ir,pI hvg,ug,_,0,_,U,U,s0t.seqT hug,pI (j:=0) U,U,_,U,?_⟩;by_cases e2:hg="function"
           · refine pK (by simp[e2]) ⟨_,U,_,JW,?_,aK st hM,?_,_,U⟩
             · rw[lMp];have h1:=List.length_filter_le (gR G hh) (u2.2.take t);rw[lTk] at h1;omega
             · have e3:gR G hh ((m:Nat):Int)=true:=by rw[ecb];simp[e1,e2]
               rw[pF,W,List.filter_append,List.map_append];simp[e3]
           · exact pJ (by simp[e2]) (J5 (by rw[ecb];simp[e2]))
         · exact pJ (by simp[e1]) (J5 (by rw[ecb];simp[e1]))
       · rintro O Ht ⟨st,JW,y',rfl⟩;rw[lMp,List.take_length,ecs,yR G hh c b] at JW;have hCt:=st _ _ hC7;have neMC:M≠C:=(aD hC7 hM).symm;have Iz:ys.length=i:=by
          have:=B.length;rw[lMp,lTk,Nat.min_eq_left (Nat.le_of_lt (gES.mp IT).1)] at this;exact this
         have hfew:=hf.few;have hil:=(gES.mp IT).1;refine⟨C,ys,.ref M,U,U,hCt,by omega,?_⟩;have W:G.take (i+1)=G.take i++[.tuple [.str hh,.int c,b]]:=by rw[tAO,IT];rfl
         refine⟨?_,⟨_,pF,?_⟩,?_,_,_,_,_,U⟩
         · exact aK (λx o e=>st _ _ (si7 _ _ (aD (si _ _ e) hwki) (aD (si _ _ e) hwl) (si _ _ e))) hC
         · rw[W,List.map_append];refine (B.same λx o e=>?_).snoc (dY (by rw[ai neMC];exact JW) neMC neMC);have hx:x≠C:=λz=>by rw[z,iu] at e;cases e
           have e':=dF _ _ e;exact dY (by rw[ai hx];exact st _ _ (si7 _ _ (aD e' hwki) (aD e' hwl) e')) hx hx
         · intro f Km;rw[W] at Km
           rcases mAp.mp Km with z | z
           · exact HP f z
           · rw[mSg.mp z];exact ebf
   · rintro σ H3 ⟨s3,⟨ys,hC3,B⟩,HP,x2,x3,x4,x5,rfl⟩;rw[IB.length,List.take_length] at B HP;ext h;have Kd:Rows H3 ys (G.map (d9 G)):=B.same dF;have hyl:=Kd.length;rw[lMp] at hyl;have hfew:=hf.few;have hshort:∀ r∈G.map (d9 G),r.length<=90000:=λr hr=>by
      obtain⟨g,hg,rfl⟩:=List.mem_map.mp hr;obtain⟨w',hw'⟩:=Option.isSome_iff_exists.mp (HP g hg);have h1:=qB (fs:=G) (xc hw');obtain⟨hh,c,b,rfl,_⟩:=eI (hf.fn g hg);have h3:=cM hg;rw[aC,wts,wts,wts,wts] at h3;have h4:(d9 G (.tuple [.str hh,.int c,b])).length<=wt b:=h1;omega
     have inr:∀ i c,Er (G.map (d9 G)) i c->∃ j:Nat,c=((j:Nat):Int)/\j<(G.map (d9 G)).length:=λi c h=>by
      obtain⟨_,_,g,_,_,_,_,hg,_⟩:=(kO G i c).mp h;obtain⟨j,e,hj⟩:=dW hg;exact⟨j,e,by rw[lMp];exact (gES.mp hj).1⟩
     refine⟨_,U,C,ys,U,.inl (SqL.of hC3),_,U,by omega,by omega,?_⟩;show aV _ _ _ _ _ _;refine aV.by (bo (lo:=0) (n:=((ys.length:Int)).toNat)) (λk σ Z=>aA H3 Z/\(∃ Ck yk,Z Ck=some (.lst yk)/\Rows Z yk (bX (G.map (d9 G)) k)/\∃ x2 x3 x4 x5,σ=[some (.ref a),some (.ref Ck),x2,x3,x4,x5])) ⟨aA.refl _,C,ys,hC3,Kd,_,_,_,_,U⟩ (λ_ _ _ _ _=>trivial) ?_ ?_
     · rintro k u σ Z hu ⟨si,Ck,yk,hCk,Kh,x2,x3,x4,x5,rfl⟩;have hkl:=Kh.length;rw[fR,lMp] at hkl;rw[aL,dU,bU];refine⟨_,U,Ck,U,⟨yk,SqL.of hCk⟩,λL hL=>?_⟩;have kL:=smu (o:=HO.lst []) hL;refine bj.by (bR (xs:=yk)) (λj R J=>aA Z J/\(∃ zs:List V,J L=some (.lst zs)/\Rows (off L L J) zs ((jY (bX (G.map (d9 G)) k)).take j)/\zs.length=j)/\∃ y,R=[y,some (.ref Ck)]) ⟨kL,⟨[],pF,.nil,U⟩,_,U⟩ (λj R J _ h=>SqL.of (h.1 _ _ hCk)) ?_ ?_
       · rintro j w0 R J hwj ⟨sj,⟨zs,Y,IV,hzl⟩,y,rfl⟩;obtain⟨r,l,rfl,hlj,Jz⟩:=Kh.get hwj;have hjl:=(gES.mp hwj).1;rw[aL];simp only[fq,if_true];rw[bU];refine⟨_,U,r,U,⟨_,SqL.of (sj _ _ Jz)⟩,λM hM=>?_⟩;have kM:=smu (o:=HO.lst []) hM;have neML:M≠L:=λz=>by rw[z,Y] at hM;cases hM
         have er:cR (bX (G.map (d9 G)) k) ((j:Nat):Int)=l:=by unfold cR;rw[iS,hlj];rfl
         refine bj.by (bR (xs:=l.map V.int)) (λt O Ht=>aA J Ht/\Ht M=some (.lst (((l.take t).filter λc=>!(cR (bX (G.map (d9 G)) k) c).isEmpty).map V.int))/\∃ y,O=[y,some (.ref Ck)]) ⟨kM,pF,_,U⟩ (λt O Ht _ h=>SqL.of (h.1 _ _ (sj _ _ Jz))) ?_ ?_
         · rintro t x O Ht hxt ⟨st,JW,y',rfl⟩;rw[gEM] at hxt;obtain⟨c,hc,rfl⟩:=oMS.mp hxt;obtain⟨m,rfl,hm⟩:=inr ((j:Nat):Int) c ((fh _ k _ _).mp (by rw[er];exact mGE hc)).1;rw[lMp] at hm;have hym:=gEE (show m<yk.length by omega);obtain⟨r2,l2,e2,hl2,IU⟩:=Kh.get hym;rw[e2] at hym;have em:cR (bX (G.map (d9 G)) k) ((m:Nat):Int)=l2:=by unfold cR;rw[iS,hl2];rfl
           have sit:=sj.trans st;have W:(l.take (t+1))=l.take t++[((m:Nat):Int)]:=by rw[tAO,hc];rfl
           rw[aL];refine⟨_,U,_,U,Ck,yk,_,_,U,U,SqL.of (sit _ _ hCk),pI hym,jl,λN hN=>⟨r2,N,l2.map V.int,U,U,SqL.of ((smu hN) _ _ (sit _ _ IU)),SqL.of pF,_,U,?_⟩⟩;have kN:=smu (o:=HO.lst []) hN;generalize upd Ht N (.lst [])=Hu at kN ⊢;have stu:=st.trans kN;have hMu:=kN _ _ JW;cases hl2e:l2 with
           | nil =>
            refine pJ ?B ⟨stu,?_,_,U⟩;rw[W,List.filter_append,hMu];simp[em,hl2e]
           | cons c2 l3 =>
            refine pK ?B ⟨_,U,_,hMu,?_,aK stu hM,?_,_,U⟩
            · rw[lMp];have h1:=List.length_filter_le (λc=>!(cR (bX (G.map (d9 G)) k) c).isEmpty) (l.take t);have h2:l.length<=1000000:=Nat.le_trans (jM hshort k l (mGE hlj)) ?G;rw[lTk] at h1;omega
            · rw[pF,W,List.filter_append,List.map_append];simp[em,hl2e]
         · rintro O Ht ⟨st,JW,y',rfl⟩;rw[lMp,List.take_length] at JW;refine⟨zs,st _ _ Y,by omega,aK (sj.trans st) hL,⟨_,pF,?_,by rw[lAp,hzl];rfl⟩,_,U⟩;have et:(jY (bX (G.map (d9 G)) k)).take (j+1)=(jY (bX (G.map (d9 G)) k)).take j++[l.filter λc=>!(cR (bX (G.map (d9 G)) k) c).isEmpty]:=by
            rw[tAO];unfold jY;rw[gEM,hlj];rfl
           rw[et];have so:aA (off L L J) (off L L (upd Ht L (.lst (zs++[.ref M])))):=λb o hb=>by
            have Il:b≠L:=λz=>by rw[z,iu] at hb;cases hb
            exact dY (by rw[ai Il];exact st _ _ (dF _ _ hb)) Il Il
           exact (IV.same so).snoc (dY (by rw[ai neML];exact JW) neML neML)
       · rintro R J ⟨sj,⟨zs,Y,IV,hzl⟩,y,rfl⟩;have e:(jY (bX (G.map (d9 G)) k)).take yk.length=bX (G.map (d9 G)) (k+1):=by
          rw[show jY (bX (G.map (d9 G)) k)=bX (G.map (d9 G)) (k+1) from rfl];exact List.take_of_length_le (by rw[fR,lMp];omega)
         rw[e] at IV;rw[aL];exact⟨si.trans sj,L,zs,Y,IV.same dF,_,_,_,_,U⟩
     · rintro σ H4 ⟨s4,Ck,yk,hCk,Kh,x2,x3,x4,x5,rfl⟩;unfold L2.bN at Kh;rw[lMp,List.length_range,Int.toNat_natCast,hyl] at Kh;refine gH _ _ ?_;rw[gr,kU,bU];refine⟨_,U,Ck,U,⟨yk,SqL.of hCk⟩,λL hL=>?_⟩;have kL:=smu (o:=HO.lst []) hL;have hkl:=Kh.length;rw[fR,lMp] at hkl;refine bj.by (bR (xs:=yk)) (λj R J=>aA H4 J/\(∃ us:List V,J L=some (.lst us)/\us.length<=j/\(us.isEmpty=true↔∀ r∈(bX (G.map (d9 G)) G.length).take j,r=[]))/\∃ y,R=[y]) ⟨kL,⟨[],pF,Nat.le_refl _,⟨λ_ r hr=>(by simp at hr),λ_=>rfl⟩⟩,_,U⟩ (λj R J _ h=>SqL.of (h.1 _ _ hCk)) ?_ ?_
       · rintro j w0 R J hwj ⟨sj,⟨us,Y,hul,JI⟩,y,rfl⟩;obtain⟨r,l,rfl,hlj,Jz⟩:=Kh.get hwj;have hjl:=(gES.mp hwj).1;have et:(bX (G.map (d9 G)) G.length).take (j+1)=(bX (G.map (d9 G)) G.length).take j++[l]:=by rw[tAO,hlj];rfl
         rw[aL];refine⟨_,U,jl,λN hN=>⟨r,N,l.map V.int,U,U,SqL.of ((smu hN) _ _ (sj _ _ Jz)),SqL.of pF,_,U,?_⟩⟩;have kN:=smu (o:=HO.lst []) hN;generalize upd J N (.lst [])=Hu at kN ⊢;have sju:=sj.trans kN;have hLu:=kN _ _ Y;cases hle:l with
         | nil =>
          refine pJ ?B ⟨sju,⟨us,hLu,by omega,?_⟩,_,U⟩;rw[JI,et,hle];exact⟨λz r hr=>(mAp.mp hr).elim (z r) λy=>mSg.mp y,λz r hr=>z r (List.mem_append_left _ hr)⟩
         | cons c l3 =>
          refine pK ?B ⟨_,U,us,hLu,by omega,aK sju hL,⟨_,pF,by rw[lAp,List.length_singleton];omega,?_⟩,_,U⟩;refine⟨λz=>(by cases us <;> cases z),λz=>?_⟩;have:=z l (by rw[et];exact List.mem_append_right _ (mSg.mpr U));rw[hle] at this;cases this
       · rintro R J ⟨sj,⟨us,Y,_,JI⟩,y,rfl⟩;rw[List.take_of_length_le (by rw[fR,lMp];omega)] at JI;refine⟨jl,λM hM=>?_⟩;have kM:=smu (o:=HO.lst []) hM;refine⟨L,M,us,U,U,SqL.of (kM _ _ Y),SqL.of pF,?_⟩;have hend:=tY (G.map (d9 G)) inr;rw[lMp] at hend;have hri:∀ x y:Int,Rch (Er (G.map (d9 G))) x y↔Rch (Pl G) x y:=λx y=>rT λa b=>kO G a b;refine q _ _ ((((s1.trans s3).trans s4).trans sj).trans kM) ⟨λz=>⟨G,rs,os,U,hf,HP,λa b Iw IX=>hend.mp (JI.mp z) a b ((kO G a b).mpr Iw) ((hri _ _).mpr IX)⟩,λz=>?_⟩;have hac:=(un (A:=True) z.ex).2;exact JI.mpr (hend.mpr λa b Iw IX=>hac a b ((kO G a b).mp Iw) ((hri _ _).mp IX))
end
end K13
set_option maxHeartbeats 2000000
namespace K13
open PySem L2 PySem.Spec PyProof.Rows PySem.SeqAt
structure Gam where
  hs:List (Str×Nat)
  own:Nat
  rs:List Nat
  s:Addr
  sa:Addr
  fa:Addr
  rc:Addr
def hsI (hs:List (Str×Nat)):List (Str×Int):=hs.map λp=>(p.1,((p.2:Nat):Int))
def rsI (rs:List Nat):List Int:=rs.map λr=>((r:Nat):Int)
def Gam.cfg (Γ:Gam):Cfg:=⟨hsI Γ.hs,rsI Γ.rs⟩
def ji (Γ:Gam) (c:Int):Prop:=(Γ.hs[Γ.own]?).map (·.1)=some ("function":Str)->∀ j:Nat,c=((j:Nat):Int)->(Γ.hs[j]?).map (·.1)=some ("function":Str)->j<Γ.own
def wb:Nat->Nat
  | 0=>9
  | m+1=>8*wb m+12
def bK (l:PDs):dp (.tuple l)=dps l+1:=by rw[dp]
def fM (m:Nat):9<=wb m:=by
 cases m with
 | zero=>exact Nat.le_refl _
 | succ m=>show 9<=8*wb m+12;omega
structure d6 (Γ:Gam) (m:Nat) (kn:Kn) (n:Nat) (nx:Int) (d:PyData) (nx':Int):Prop where
  ft:∀ cs,(∀ c∈cs,ji Γ c)->∃ cs',fit Γ.cfg (m+1) kn n (nx,cs) d=some (nx',cs')/\∀ c∈cs',ji Γ c
  wt:wt d<=wb m
  dp:dp d<=2*m+2
structure cQ (Γ:Gam) (m:Nat) (kn:Kn) (n:Nat) (nx:Int) (ds:PDs) (nx':Int):Prop where
  ft:∀ cs,(∀ c∈cs,ji Γ c)->∃ cs',bz (fit Γ.cfg (m+1) kn n) ds (nx,cs)=some (nx',cs')/\∀ c∈cs',ji Γ c
  wt:wts ds<=ds.length*wb m
  dp:∀ x∈ds,dp x<=2*m+2
section
variable {B:Gam} {m:Nat} {kn:Kn} {n:Nat} {nx A l:Int} {d a b:PyData} {ds ps:PDs}
def d6.le (h:d6 B m kn n nx d A):nx<=A/\A<=nx+((wb m:Nat):Int):=by
 obtain⟨a,e,_⟩:=h.ft [] λc c=>by cases c
 have b:=j5 e;have f:=h.wt;simp only[List.length_nil] at b;omega
def cQ.nil:cQ B m kn n nx [] nx:=⟨λcs h=>⟨cs,U,h⟩,Nat.zero_le _,λx a=>by cases a⟩
def cQ.snoc (h:cQ B m kn n nx k l) (g:d6 B m kn n l d A):cQ B m kn n nx (k++[d]) A:=by
 refine⟨λC p=>?_,?_,λx j=>?_⟩
 · obtain⟨i,o,b⟩:=h.ft C p;obtain⟨t,q,c⟩:=g.ft i b;refine⟨t,?_,c⟩;have:∀ (a:PDs) w,bz (fit B.cfg (m+1) kn n) (a++[d]) w=(bz (fit B.cfg (m+1) kn n) a w).bind λv=>fit B.cfg (m+1) kn n v d:=by
    intro a
    induction a with
    | nil=>intro w;show (fit B.cfg (m+1) kn n w d).bind (bz _ [])=_;show _=fit B.cfg (m+1) kn n w d;cases fit B.cfg (m+1) kn n w d <;> rfl
    | cons x r s =>
     intro w;show (fit B.cfg (m+1) kn n w x).bind (bz _ (r++[d]))=((fit B.cfg (m+1) kn n w x).bind (bz _ r)).bind _;rw[Option.bind_assoc];congr 1
     funext v
     exact s v
   rw[this,o];exact q
 · have b:=h.wt;have c:=g.wt;rw[cx,wts,wts,lAp,Nat.add_mul];show wts k+(K13.wt d+0)<=k.length*wb m+1*wb m;omega
 · rcases mAp.mp j with z | z
   · exact h.dp x z
   · rw[mSg.mp z];exact g.dp
def cQ.dps (h:cQ B m kn n nx ds A):dps ds<=2*m+2:=jF h.dp
def cQ.wt' (h:cQ B m kn n nx ds A) (a:ds.length<=c):wts ds<=c*wb m:=Nat.le_trans h.wt (Nat.mul_le_mul_right _ a)
def d6.of (z:cQ B m kn n nx ds A) (e:∀ w,fit B.cfg (m+2) kn n w (.tuple ps)=bz (fit B.cfg (m+1) kn n) ds w) (f:wts ps+1<=wb (m+1)) (g:dps ps<=2*m+3):d6 B (m+1) kn n nx (.tuple ps) A :=
 ⟨λcs d=>by obtain⟨a,c,b⟩:=z.ft cs d;exact⟨a,(e _).trans c,b⟩,by rw[aC];exact f,by rw[bK];omega⟩
def zQ (d:PyData):dps [d]=dp d:=by rw[dps,dps];exact Nat.max_eq_left (Nat.zero_le _)
def w_s (s:Str) (h:s.length=k:=by rfl):wt (.str s)=k+1:=by rw[dv,h]
def d_s (s:Str):dp (.str s)=1:=by simp[dp]
def d_i (i:Int):dp (.int i)=1:=by simp[dp]
def w_i (i:Int):wt (.int i)=1:=by simp[wt]
def v9 (b:-32768<=i) (a:i<=32767):d6 B m kn n nx (.tuple [.str "number",.int i]) nx:=by
 refine⟨λcs c=>⟨cs,?_,c⟩,?_,?_⟩
 · rw[lv,if_pos];show (decide (-32768<=i)&&decide (i<=32767))=true;rw[decide_eq_true b,decide_eq_true a];rfl
 · have:=fM m;simp only[aC,wts,w_s "number" (k:=6),w_i];omega
 · simp only[bK,dps,d_s,d_i];omega
def Be {a:Nat} (c:kn i=some (v,a)) (b:v=false\/a=n):d6 B m kn n nx (.tuple [.str "name",.int i]) nx:=by
 refine⟨λcs d=>⟨cs,?_,d⟩,?_,?_⟩
 · rw[lx,if_pos];show (true&&eM kn n i)=true;unfold eM;rw[c]
   rcases b with rfl | rfl
   · rfl
   · grind
 · have:=fM m;simp only[aC,wts,w_s "name" (k:=4),w_i];omega
 · simp only[bK,dps,d_s,d_i];omega
def yt (a:bD s=true):d6 B (m+1) kn n nx (.tuple [.str "fault",.str s]) nx:=by
 have c:s.length<=8:=by
  unfold bD at a;simp only[Bool.and_eq_true,decide_eq_true_eq] at a;exact a.1.1.2
 refine⟨λcs b=>⟨cs,?_,b⟩,?_,?_⟩
 · rw[mG,if_pos];exact a
 · have:=fM m;simp only[aC,wts,w_s "fault" (k:=5),dv];ext r
 · simp only[bK,dps,d_s,d_i];omega
def CL (b:kn i=some (true,n)) (z:cQ B m kn n nx [d] A):d6 B (m+1) kn n nx (.tuple [.str "set",.int i,d]) A:=by
 have a:=z.wt' ?M;have c:=z.dps;rw[zQ] at c;refine d6.of z (λw=>?_) ?_ ?_
 · rw[nU,if_pos];show (true&&iM kn n i)=true;unfold iM;rw[b];show (true&&(true&&decide (n=n)))=true;rw[decide_eq_true U];rfl
 · simp only[wts,w_s "set" (k:=3),w_i] at a ⊢;show _<=8*wb m+12;simp only[List.length_singleton] at a;omega
 · simp only[dps,d_s,d_i];omega
def CM (z:cQ B m kn n nx [d] A):d6 B (m+1) kn n nx (.tuple [.str "say",d]) A:=by
 have b:=z.wt' ?M;have a:=z.dps;rw[zQ] at a;refine d6.of z (λw=>sN) ?_ ?_
 · simp only[wts,w_s "say" (k:=3),w_i,List.length_singleton] at b ⊢;ext r
 · simp only[dps,d_s,d_i];omega
def yq (z:cQ B m kn n nx [a,b] A):d6 B (m+1) kn n nx (.tuple [.str "while",a,b]) A:=by
 have c:=z.wt' ?M;have d:=z.dps;have e:=fM m;refine d6.of z (λw=>mF) ?_ ?_
 · simp only[wts,w_s "while" (k:=5),w_i,List.length_cons,List.length_nil] at c ⊢;ext r
 · simp only[dps,d_s,d_i] at d ⊢;omega
def FV (z:cQ B m kn n nx [a,b,d] A):d6 B (m+1) kn n nx (.tuple [.str "if",a,b,d]) A:=by
 have e:=z.wt' ?M;have c:=z.dps;refine d6.of z (λw=>xv) ?_ ?_
 · simp only[wts,w_s "if" (k:=2),w_i,List.length_cons,List.length_nil] at e ⊢;ext r
 · simp only[dps,d_s,d_i] at c ⊢;omega
def FW (z:cQ B m kn n nx ds A) (b:0<ds.length) (a:ds.length<=8):d6 B (m+1) kn n nx (.tuple [.str "do",.tuple ds]) A:=by
 have d:=z.wt' a;have c:=z.dps;refine d6.of z (λw=>?_) ?_ ?_
 · rw[nY,if_pos]
   · rfl
   · show (true&&decide (0<ds.length))=true;rw[decide_eq_true b];rfl
 · simp only[wts,w_s "do" (k:=2),w_i,aC];ext r
 · simp only[dps,d_s,d_i,bK] at c ⊢;omega
def Bd {lo hi:Int} (d:lkT opT s=some (lo,hi)) (z:cQ B m kn n nx ds A) (b:lo<=ds.length) (c:(ds.length:Int)<=hi) (a:ds.length<=8) (f:s.length<=4):d6 B (m+1) kn n nx (.tuple [.str "op",.str s,.tuple ds]) A:=by
 have g:=z.wt' a;have e:=z.dps;refine d6.of z (λw=>?_) ?_ ?_
 · rw[nV,if_pos]
   · rfl
   · show (((lkT opT s).isSome&&true)&&opN s ds.length)=true;unfold opN;rw[d];show (true&&(decide (lo<=(ds.length:Int))&&decide ((ds.length:Int)<=hi)))=true;rw[decide_eq_true b,decide_eq_true c];rfl
 · simp only[wts,w_s "op" (k:=2),dv,aC];ext r
 · simp only[dps,d_s,d_i,bK] at e ⊢;omega
def Au (l:List α) (j:Nat):plc l ((j:Nat):Int)=l[j]?:=by
 unfold plc;rw[if_pos (Int.natCast_nonneg j),Int.toNat_natCast]
def vO (h:rs[j]?=some c):plc (rsI rs) ((j:Nat):Int)=some ?R:=by
 rw[Au];unfold rsI;rw[gEM,h];rfl
def Ce (e:hs[j]?=some (h,c)):plc (hsI hs) ((j:Nat):Int)=some (h,?R):=by
 rw[Au];unfold hsI;rw[gEM,e];rfl
def CN (b:B.rs[j]?=some ds.length) (z:cQ B m kn n nx ds A) (a:ds.length<=4):d6 B (m+1) kn n nx (.tuple [.str "new",.int ((j:Nat):Int),.tuple ds]) A:=by
 have f:=z.wt' a;have d:=z.dps;have e:=fM m;refine d6.of z (λw=>?_) ?_ ?_
 · rw[kJ,if_pos]
   · rfl
   · show ((true&&true)&&(match plc (rsI B.rs) ((j:Nat):Int) with | some c=>decide ((ds.length:Int)=c) | none=>false))=true;rw[vO b];show (true&&decide _)=true;rw[decide_eq_true U];rfl
 · simp only[wts,w_s "new" (k:=3),dv,aC,w_i];ext r
 · simp only[dps,d_s,d_i,bK] at d ⊢;omega
def CP (a:B.rs[j]?=some c) (f:k<c) (z:cQ B m kn n nx [d] A):d6 B (m+1) kn n nx (.tuple [.str "get",.int ((j:Nat):Int),.int ((k:Nat):Int),d]) A:=by
 have e:=z.wt' ?M;have b:=z.dps;have g:=fM m;rw[zQ] at b;refine d6.of z (λw=>?_) ?_ ?_
 · rw[nW,if_pos];show ((true&&true)&&(match plc (rsI B.rs) ((j:Nat):Int) with | some c=>decide (0<=((k:Nat):Int))&&decide (((k:Nat):Int)<c) | none=>false))=true;rw[vO a];show (true&&(decide _&&decide _))=true;rw[decide_eq_true (Int.natCast_nonneg k),decide_eq_true ?A];rfl
 · simp only[wts,w_s "get" (k:=3),w_i,List.length_singleton] at e ⊢;ext r
 · simp only[dps,d_s,d_i];omega
def yu (z:cQ B m kn n nx (a::ds) A) (e:ds.length<=2):d6 B (m+1) kn n nx (.tuple [.str "apply",a,.tuple ds]) A:=by
 have b:=z.wt' (c:=3) ?Q;have d:=z.dps;have f:=fM m;refine d6.of z (λw=>?_) ?_ ?_
 · rw[jC,if_pos]
   · rfl
   · rfl
 · simp only[wts,w_s "apply" (k:=5),aC] at b ⊢;ext r
 · simp only[dps,d_s,d_i,bK] at d ⊢;omega
def Bf {h:Str} (e:B.hs[j]?=some (h,c)) (i:h≠"open") (a:ds.length=c) (u:ji B ((j:Nat):Int)) (z:cQ B m kn n nx ds A) (d:ds.length<=4):d6 B (m+1) kn n nx (.tuple [.str "call",.int ((j:Nat):Int),.tuple ds]) A:=by
 have s:=z.wt' d;have p:=z.dps;have q:=fM m;refine⟨λx o=>?_,?_,?_⟩
 · obtain⟨g,l,f⟩:=z.ft (x++[((j:Nat):Int)]) λc a=>by
    rcases mAp.mp a with y | y
    · exact o c y
    · rw[mSg.mp y];exact u
   refine⟨g,?_,f⟩;rw[j7,if_pos]
   · exact l
   · show ((true&&true)&&(match plc (hsI B.hs) ((j:Nat):Int) with | some (h,c)=>!(decide (h="open"))&&decide (c=(ds.length:Int)) | none=>false))=true;rw[Ce e];show (true&&(!(decide (h="open"))&&decide _))=true;rw[decide_eq_false i,decide_eq_true (by rw[a])];rfl
 · simp only[wts,w_s "call" (k:=4),dv,aC,w_i];ext r
 · simp only[dps,d_s,d_i,bK] at p ⊢;omega
def CO (c:h∈lve) (e:d6 B m kn n (nx+1) a l) (d:d6 B m (cS kn (decide (h="var")) n [nx]) n l b A):d6 B (m+1) kn n nx (.tuple [.str h,.int nx,a,b]) A:=by
 have r:=e.wt;have g:=d.wt;have i:=e.dp;have p:=d.dp;have w:=fM m;have x:h.length<=4:=by
  simp only[lve,List.mem_cons,nMN,or_false] at c
  rcases c with rfl | rfl | rfl <;> left
 refine⟨λcs t=>?_,?_,?_⟩
 · obtain⟨k,q,j⟩:=e.ft cs t;obtain⟨v,s,o⟩:=d.ft k j;refine⟨v,?_,o⟩;rw[sP c,if_pos]
   · show ((fit B.cfg (m+1) kn n (nx+1,cs) a).bind (bz _ [])).bind _=_;rw[q];exact s
   · show (true&&decide (nx=nx))=true;rw[decide_eq_true U];rfl
 · simp only[wts,dv,aC,w_i];ext r
 · simp only[dps,d_s,d_i,bK];omega
def CQ (j:k<=4) (d:d6 B m (cS kn false (n+1) (rgI nx k)) (n+1) (nx+((k:Nat):Int)) b A):d6 B (m+1) kn n nx (.tuple [.str "fun",.tuple ((rgI nx k).map .int),b]) A:=by
 have g:=d.wt;have s:=d.dp;have z:=fM m;have a:((rgI nx k).map PyData.int).length=k:=by unfold rgI;rw[lMp,lMp,List.length_range]
 have f:((rgI nx k).map PyData.int).map aY=rgI nx k:=by
  rw[List.map_map];exact (List.map_congr_left λx _=>rfl).trans (List.map_id _)
 have h:∀ l:List Int,wts (l.map PyData.int)=l.length:=by
  intro l
  induction l with
  | nil=>rfl
  | cons x r q=>rw[List.map_cons,wts,q,w_i,List.length_cons];omega
 have v:∀ l:List Int,dps (l.map PyData.int)<=1:=λl=>jF λx c=>by obtain⟨i,_,rfl⟩:=List.mem_map.mp c;rw[d_i];exact Nat.le_refl _
 have o:=v (rgI nx k);refine⟨λD u=>?_,?_,?_⟩
 · obtain⟨y,t,p⟩:=d.ft D u;refine⟨y,?_,p⟩;rw[nX,if_pos]
   · show fit B.cfg (m+1) (cS kn false (n+1) (((rgI nx k).map PyData.int).map aY)) (n+1) (nx+((((rgI nx k).map PyData.int).length:Nat):Int),D) b=_;rw[f,a];exact t
   · show (decide (((rgI nx k).map PyData.int).length<=4)&&((rgI nx k).map PyData.int).all isW&&decide ((((rgI nx k).map PyData.int).map aY)=rgI nx ((rgI nx k).map PyData.int).length))=true;rw[a,f,decide_eq_true j,decide_eq_true U,Bool.and_true,Bool.true_and,List.all_eq_true];intro x c;obtain⟨i,_,rfl⟩:=List.mem_map.mp c;rfl
 · have:=h (rgI nx k);rw[lMp] at a;simp only[wts,dv,aC,w_i,w_s "fun" (k:=3)];ext r
 · simp only[dps,d_s,d_i,bK];omega
end
def dR (rs:List Nat):PDs:=rs.map λr=>.int ((r:Nat):Int)
def w6:List Str:=["a","ab","abc","x","xx","y"]
def nmK (k:Nat):Str:=w6.getD (5-k) ""
def mkO (k:Nat):PyData:=.tuple [.str (nmK k),.int ((k:Nat):Int)]
def qK:∀ a<5,∀ b<5,(decide ((nmK a).cps.toList<(nmK b).cps.toList)=decide (b<a))/\(a≠b->nmK a≠nmK b):=by left
def su:∀ a<5,bD (nmK a)=true/\(nmK a).length<=3:=by left
def mm:∀ (l:List Str) (p:Str),(p::l).Pairwise LeS->risingS p l=true
 | [],_,_=>rfl
 | x::r,p,h=>by
  obtain⟨h1,h2⟩:=List.pairwise_cons.mp h;show (!ltCps x.cps.toList p.cps.toList&&risingS x r)=true;rw[Bool.and_eq_true];exact⟨sy.mpr (h1 x (mCS ..)),mm r x h2⟩
def u8 (h:l.Pairwise LeS):sortedS l=true:=by
 cases l with
 | nil=>rfl
 | cons x r=>exact mm r x h
def Ho (hs:List (Str×Nat)) (own:Nat) (c:Int):Prop:=(hs[own]?).map (·.1)=some ("function":Str)->∀ j:Nat,c=((j:Nat):Int)->(hs[j]?).map (·.1)=some ("function":Str)->j<own
def Cr (hs:List (Str×Nat)) (rs:List Nat):Cfg:=⟨hsI hs,rsI rs⟩
structure ib (hs:List (Str×Nat)) (rs:List Nat) (i:Nat) (f:PyData):Prop where
  ex:∃ (h:Str) (c:Nat) (b:PyData) (cs:List Int) (nx:Int),f=.tuple [.str h,.int ?R,b]/\hs[i]?=some (h,c)/\fit (Cr hs rs) 40 (kn0 ?R) 0 (?R,[]) b=some (nx,cs)/\(∀ x∈cs,Ho hs i x)/\wt b<=5500/\dp b<=8
def By (h:∀ a b,R a b->b<a) (r:Rch R x y):y<=x:=by
 induction r with
 | refl=>exact Int.le_refl _
 | step _ e c=>have:=h _ _ e;omega
section
variable {hs:List (Str×Nat)} {P:List Nat} {fs:PDs} {L:List Nat}
def pV (fs:PDs) (P:List Nat) (L:List Nat):PyData:=.tuple [.tuple fs,.tuple (dR P),.tuple (L.reverse.map mkO)]
def Cq (a:fs.length=hs.length) (d:∀ i f,fs[i]?=some f->ib hs P i f):aX fs (dR P)=Cr hs P:=by
 unfold aX Cr;congr 1
 · unfold hsI;apply List.ext_getElem?;intro i;rw[gEM,gEM];cases e:fs[i]? with
   | none =>
    have:=List.getElem?_eq_none (by rw[<- a];exact List.getElem?_eq_none_iff.mp e);rw[this];rfl
   | some f =>
    obtain⟨h,c,b,j,k,rfl,g,_⟩:=(d i f e).ex;rw[g];rfl
 · unfold dR rsI;rw[List.map_map];rfl
def zV (O:fs.length=hs.length) (q:∀ i f,fs[i]?=some f->ib hs P i f) (M:∀ p∈hs,iC p.1=true/\p.2<=4) (hl:hs.length<=5) (rl:P.length<=3) (W:∀ r∈P,1<=r/\r<=4) (B:L.Pairwise (·<·)) (o:∀ k∈L,k<5) (lo:L.map (λk=>((k:Nat):Int))=opn 0 fs):yj (pV fs P L):=by
 have F:=Cq O q;refine⟨fs,dR P,L.reverse.map mkO,U,⟨?_,λf m=>?_,λr G=>?_,λo K=>?_,?_,?_,?_⟩,λf m=>?_,?_⟩
 · unfold dR;rw[lMp];omega
 · obtain⟨i,d⟩:=List.mem_iff_getElem?.mp m;obtain⟨h,c,b,s,C,rfl,t,_⟩:=(q i f d).ex;obtain⟨T,N⟩:=M _ (mGE t);show (iC h&&wIn 0 4 (.int ?R))=true;rw[T];show (decide ((0:Int)<=?R)&&decide (?R<=4))=true;rw[decide_eq_true (Int.natCast_nonneg c),decide_eq_true (by have:=N;omega)];rfl
 · obtain⟨A,H,rfl⟩:=List.mem_map.mp G;obtain⟨a,b⟩:=W A H;show (decide ((1:Int)<=((A:Nat):Int))&&decide (((A:Nat):Int)<=4))=true;rw[decide_eq_true ?A,decide_eq_true ?A];rfl
 · obtain⟨k,I,rfl⟩:=List.mem_map.mp K;show (bD (nmK k)&&true)=true;rw[(su k (o k (List.mem_reverse.mp I))).1];rfl
 · have e:(L.reverse.map mkO).map nmD=(L.map nmK).reverse:=by rw[List.map_map,<- List.map_reverse];rfl
   rw[e];refine u8 (List.pairwise_reverse.mpr (List.pairwise_map.mpr ?_));refine B.imp_of_mem λ{a b} ha l y=>?_;have:=(qK a (o a ha) b (o b l)).1;rw[decide_eq_decide] at this;intro z;have:=this.mp z;omega
 · have e:(L.reverse.map mkO).map nmD=(L.map nmK).reverse:=by rw[List.map_map,<- List.map_reverse];rfl
   rw[e];refine List.pairwise_reverse.mpr (List.pairwise_map.mpr ?_);exact B.imp_of_mem λ{a b} ha l y=>(qK b (o b l) a (o a ha)).2 ?A
 · have e:(L.reverse.map mkO).map nrD=(L.map λk=>((k:Nat):Int)).reverse:=by rw[List.map_map,<- List.map_reverse];rfl
   rw[e,lo];exact List.reverse_perm _
 · obtain⟨i,d⟩:=List.mem_iff_getElem?.mp m;obtain⟨h,c,b,s,C,rfl,t,v,_⟩:=(q i f d).ex;show (fit (aX fs (dR P)) 40 (kn0 ?R) 0 (?R,[]) b).isSome=true;rw[F,v];rfl
 · have n:∀ a b,Pl fs a b->b<a:=by
    rintro a R ⟨i,f,g,d,rfl,m,l,D,w⟩;obtain⟨h,c,b,s,C,rfl,t,v,S,_⟩:=(q i f d).ex;have J:=mJ v;have Z:R∈s:=by
     rw[show s=[]++bm (cU 40 b) from J];exact l
    obtain⟨j,rfl,Y⟩:=dW D;obtain⟨h',c',b2,_,_,rfl,Q,_⟩:=(q j g Y).ex;have:=S _ Z (by rw[t];exact congrArg some m) j U (by rw[Q];exact congrArg some w);omega
   intro a b y x;have:=n a b y;have:=By n x;omega
def zG (b:∀ f∈fs,wt f<=5520/\dp f<=9):wts fs<=fs.length*5520/\dps fs<=9:=by
 refine⟨?_,jF λx a=>(b x a).2⟩
 induction fs with
 | nil=>exact Nat.zero_le _
 | cons f r c =>
  have:=c λx a=>b x (mCM _ a);have:=(b f (mCS ..)).1;rw[wts,List.length_cons,Nat.add_mul];omega
def uK (I:fs.length=hs.length) (w:∀ i f,fs[i]?=some f->ib hs P i f) (t:∀ p∈hs,iC p.1=true/\p.2<=4) (C:hs.length<=5) (D:P.length<=3) (u:L.length<=5) (o:∀ k∈L,k<5):wt (pV fs P L)<=30000/\dp (pV fs P L)<=12:=by
 have a:∀ h:Str,iC h=true->h.length<=8:=λh e=>by
  unfold iC at e;simp only[List.any_cons,List.any_nil,Bool.or_false,Bool.or_eq_true,beq_iff_eq] at e
  rcases e with rfl | rfl | rfl <;> left
 obtain⟨H,F⟩:=zG λf m=>by
  obtain⟨i,g⟩:=List.mem_iff_getElem?.mp m;obtain⟨h,c,b,A,G,rfl,j,_,_,E,J⟩:=(w i f g).ex;have:=a h (t _ (mGE j)).1;simp only[aC,wts,dv,w_i,bK,dps,d_s,d_i];omega
 have z:∀ r:List Nat,wts (dR r)=r.length/\dps (dR r)<=1:=by
  intro r
  induction r with
  | nil=>exact⟨U,Nat.zero_le _⟩
  | cons x r d =>
   show wts (.int ((x:Nat):Int)::dR r)=_/\dps (.int ((x:Nat):Int)::dR r)<=1;rw[wts,dps,w_i,d_i,List.length_cons];omega
 have s:∀ l:List Nat,(∀ k∈l,k<5)->wts (l.map mkO)<=l.length*6/\dps (l.map mkO)<=2:=by
  intro l
  induction l with
  | nil=>exact λ_=>⟨Nat.zero_le _,Nat.zero_le _⟩
  | cons x r d =>
   intro h;have K:=(su x (h x (mCS ..))).2;have:=d λy v=>h y (mCM _ v);rw[List.map_cons,wts,dps];unfold mkO;simp only[aC,wts,dv,w_i,bK,dps,d_s,d_i,List.length_cons] at this ⊢;unfold mkO at this;omega
 have B:=z P;have n:=s L.reverse λk q=>o k (List.mem_reverse.mp q);rw[List.length_reverse] at n;have:fs.length*5520<=5*5520:=Nat.mul_le_mul_right _ ?A;have:L.length*6<=5*6:=Nat.mul_le_mul_right _ u;unfold pV;simp only[aC,wts,bK,dps];omega
end
inductive Bnt:PyData->PyData->Prop
  | set {l:PDs} {i:Nat} {x y:PyData} (h:l[i]?=some x) (b:Bnt x y):Bnt (.tuple l) (.tuple (l.take i++[y]++l.drop (i+1)))
  | take (l:PDs) (i:Nat):Bnt (.tuple l) (.tuple (l.take i))
  | dbl (l:PDs) (i:Nat):Bnt (.tuple l) (.tuple (l++l.drop i))
  | cut (l:PDs) (i:Nat):Bnt (.tuple l) (.tuple (l.take i++l.drop (i+1)))
  | flat (d:PyData) {d':PyData} (h1:wt d'<=9) (h2:dp d'<=2) (h3:∀ l,d'=.tuple l->l.length<=2):Bnt d d'
def vB {l:PDs} (h:l[i]?=some x):l=l.take i++x::l.drop (i+1):=by
 obtain⟨a,b⟩:=gES.mp h;rw[<- b,<- List.drop_eq_getElem_cons a,List.take_append_drop]
def mV (l:PDs) (i:Nat):wts (l.take i)+wts (l.drop i)=wts l:=by rw[<- cx,List.take_append_drop]
def tN (l:PDs) (i:Nat):wts (l.drop (i+1))<=wts (l.drop i):=by
 have:l.drop (i+1)=(l.drop i).drop 1:=by rw[List.drop_drop]
 rw[this];have:=mV (l.drop i) 1;omega
def j8 (h:∀ x∈a,x∈b):dps a<=dps b:=jF λx c=>fP (h x c)
def Bnt.size (b:Bnt d d'):wt d'<=2*wt d+9/\dp d'<=dp d+2:=by
 induction b with
 | @set l i x y h b t =>
  have e:=vB h;have j:=cx (l.take i) (x::l.drop (i+1));rw[<- e,wts] at j;have m:=fP (mGE h);have g:dps (l.take i)<=dps l:=j8 λz c=>List.mem_of_mem_take c;have o:dps (l.drop (i+1))<=dps l:=j8 λz c=>List.mem_of_mem_drop c;have f:∀ a b:PDs,dps (a++b)<=max (dps a) (dps b):=λa b=>jF λz c=>by
   rcases mAp.mp c with z | z
   · have:=fP z;omega
   · have:=fP z;omega
  have n:=f (l.take i++[y]) (l.drop (i+1));have k:=f (l.take i) [y];rw[zQ] at k;rw[aC,aC,cx,cx,wts,wts,bK,bK];omega
 | take l i =>
  have:=mV l i;have g:dps (l.take i)<=dps l:=j8 λz c=>List.mem_of_mem_take c;rw[aC,aC,bK,bK];omega
 | dbl l i =>
  have:=mV l i;have g:dps (l++l.drop i)<=dps l:=j8 λz c=>(mAp.mp c).elim id λy=>List.mem_of_mem_drop y;rw[aC,aC,bK,bK,cx];omega
 | cut l i =>
  have:=mV l i;have:=tN l i;have g:dps (l.take i++l.drop (i+1))<=dps l:=j8 λz c=>(mAp.mp c).elim (λy=>List.mem_of_mem_take y) λy=>List.mem_of_mem_drop y;rw[aC,aC,bK,bK,cx];omega
 | flat d j m=>omega
def Bnt.tup {a:PDs} {d':PyData} (b:Bnt (.tuple a) d'):∀ l,d'=.tuple l->l.length<=2*a.length+2:=by
 intro l e;cases b with
 | @set _ i x y h b =>
  cases e;have:=(gES.mp h).1;simp only[lAp,lTk,List.length_drop,List.length_singleton];omega
 | take l i=>cases e;simp only[lTk];omega
 | dbl l i=>cases e;simp only[lAp,List.length_drop];omega
 | cut l i=>cases e;simp only[lAp,List.length_drop,lTk];omega
 | flat d f g c=>have:=c l e;omega
def Bnt.opens {k:PDs} (B:Bnt (.tuple [a,b,.tuple k]) d'):∀ m j g,d'=.tuple [m,j,.tuple g]->g.length<=2*k.length+2:=by
 intro m j g e;have f:∀ l:PDs,l=[a,b,.tuple k]->l=[m,j,.tuple g]->g.length<=2*k.length+2:=λl n c=>by
  rw[n] at c;cases c;omega
 cases B with
 | @set _ i x y h j =>
  match i,h with
  | 0,h=>cases e;omega
  | 1,h=>cases e;omega
  | 2,h =>
   cases h;cases e;exact j.tup _ U
  | i+3,h=>simp at h
 | take l i =>
  have c:=(PyData.tuple.inj e)
  match i,c with
  | 0,c=>cases c
  | 1,c=>cases c
  | 2,c=>cases c
  | i+3,c=>exact f _ ?B c
 | dbl l i =>
  have c:=(PyData.tuple.inj e)
  match i,c with
  | 0,c=>cases c
  | 1,c=>cases c
  | 2,c=>cases c
  | i+3,c=>exact f _ ?B c
 | cut l i =>
  have c:=(PyData.tuple.inj e)
  match i,c with
  | 0,c=>cases c
  | 1,c=>cases c
  | 2,c=>cases c
  | i+3,c=>exact f _ ?B c
 | flat d p q o=>have:=o _ e;simp at this
def Sm (s:Addr) (H H':Hp):Prop:=∀ a u,a≠s->H a=some u->H' a=some u
section
variable {s:Addr} {H b c:Hp}
def Sm.refl (s:Addr) (H:Hp):Sm s H H:=λ_ _ _ h=>h
def Sm.trans (x:Sm s H b) (y:Sm s b c):Sm s H c:=λa u n h=>y a u n (x a u n h)
def Sm.of (x:aA H b):Sm s H b:=λa u _ h=>x a u h
def Sm.same (x:Sm s H b) (y:aA b c):Sm s H c:=x.trans (Sm.of y)
def Mo.sm (m:Mo H s b):Sm s H b:=λa u n h=>(m a n).trans h
def Sm.put (x:Sm s H b) (h:H L=none):Sm s H (upd b L o):=λa u n e=>by
 rw[ai (aD e h)];exact x a u n e
end
def Sm.none (x:Sm s H H') (ne:L≠s) (h:H' L=none):H L=none:=by
 cases e:H L with
 | none=>rfl
 | some o=>rw[x _ _ ne e] at h;cases h
structure PM (K:Fg) (H:Hp) (s sa:Addr) (n:Nat) (m:Str->Option V) (k:Int):Prop where
  st:StV H s n m
  hn:n<=100
  sc:m "script"=some (.ref sa)
  ne:sa≠s
  ns:∃ ns:List Int,SqL K H sa (ns.map V.int)/\ns.length<=63
  hk:m "k"=some (.int k)
  k0:0<=k
section
variable {K:Fg} {H y A:Hp} {s w:Addr} {n:Nat} {m:Str->Option V} {k:Int}
def PM.dk (p:PM K H s w n m k):∃ a,H s=some (.dK a):=by obtain⟨a,h,_⟩:=p.st;exact⟨a,h⟩
def SqL.sm (h:SqL K H a xs) (x:Sm s H y) (ne:a≠s):SqL K y a xs:=by
 rcases h with (h | ⟨o,h⟩) | h
 · exact .inl (.inl (x _ _ ne h))
 · exact .inl (.inr ⟨o,x _ _ ne h⟩)
 · exact .inr h
def PM.kp (p:PM K H s w n m k) (h:PM K y s w n' m' k') (x:Sm s H y):Kp H y:=by
 obtain⟨f,e⟩:=p.dk;obtain⟨d,g⟩:=h.dk;refine⟨λb i z=>?_,λb c z=>?_,λb c z=>?_⟩
 · have ne:b≠s:=λq=>by rw[q] at z;rcases z with z | ⟨_,z⟩ <;> rw[e] at z <;> cases z
   rcases z with z | ⟨o,z⟩
   · exact .inl (x _ _ ne z)
   · exact .inr ⟨o,x _ _ ne z⟩
 · exact⟨c,x _ _ (λq=>by rw[q,e] at z;cases z) z⟩
 · by_cases ne:b=s
   · exact⟨d,by rw[ne];exact g⟩
   · exact⟨c,x _ _ ne z⟩
def PM.same (p:PM K H s w n m k) (x:aA H y):PM K y s w n m k:=by
 obtain⟨a,c,d,g⟩:=p.st;obtain⟨e,b,f⟩:=p.ns;exact⟨⟨a,x _ _ c,d,g⟩,p.hn,p.sc,p.ne,⟨e,SqL.sm b (Sm.of x) p.ne,f⟩,p.hk,p.k0⟩
def PM.own (p:PM K H s w n m k) (i:H L=none) (p1:PM K A s w n1 m1 k1) (h:A L=some (.lst ys)):PM K (upd A L o) s w n1 m1 k1:=by
 obtain⟨b,c,l,u⟩:=p1.st;have d:s≠L:=λz=>by rw[z,h] at c;cases c
 refine⟨⟨b,by rw[ai d];exact c,l,u⟩,p1.hn,p1.sc,p1.ne,?_,p1.hk,p1.k0⟩;by_cases a:w=L
 · obtain⟨e,f,r⟩:=p.ns;refine⟨e,?_,r⟩;rw[a] at f ⊢
   rcases f with (g | ⟨o,g⟩) | g
   · rw[i] at g;cases g
   · rw[i] at g;cases g
   · exact .inr g
 · obtain⟨q,j,t⟩:=p1.ns;refine⟨q,?_,t⟩
   rcases j with (h | ⟨o,h⟩) | h
   · exact .inl (.inl (by rw[ai a];exact h))
   · exact .inl (.inr ⟨o,by rw[ai a];exact h⟩)
   · exact .inr h
def PM.key (p:PM K H s w n m k) (h:n<100) {x:Str} (v:V) (e:x≠"script":=by left) (f:x≠"k":=by left):∃ a,gY H s (.str x) v a/\Mo H s a/\PM K a s w (n+1) (dQ m x v) k:=by
 obtain⟨a,d,b,j⟩:=p.st.new x v (by have:=p.hn;omega);obtain⟨g,c,i⟩:=p.ns;exact⟨a,d,b,j,h,by rw[bP _ _ (Ne.symm e)];exact p.sc,p.ne,⟨g,SqL.mo c b p.ne,i⟩,by rw[bP _ _ (Ne.symm f)];exact p.hk,p.k0⟩
def PM.pick (p:PM K H s w n m k) (o:k<1000000) (h:0<a) (q:∀ (r:Nat) (b:Hp),((r:Nat):Int)<a->Sm s H b->PM K b s w n (dQ m "k" (.int (k+1))) (k+1)->Q (.int ((r:Nat):Int)) b):tH K [.ref s,.int a] H Q:=by
 obtain⟨d,c,e⟩:=p.ns;have u:=p.k0;refine⟨s,w,n,m,d,k,a,U,p.st,by have:=p.hn;omega,p.sc,p.ne,c,e,p.hk,u,o,h,λr b t i mo g=>?_⟩;obtain⟨j,rfl⟩:=Int.eq_ofNat_of_zero_le t;exact q j b i (Mo.sm mo) ⟨g,p.hn,by rw[bP _ _ (by left)];exact p.sc,p.ne,⟨d,SqL.mo c mo p.ne,e⟩,dP _ _ _,by omega⟩
end
def dH (p:Str×Nat):PyData:=.tuple [.str p.1,.int ((p.2:Nat):Int)]
structure MS (K:Fg) (H:Hp) (Γ:Gam) (k nx:Int):Prop where
  pm:∃ n m,PM K H Γ.s Γ.sa n m k/\m "next"=some (.int nx)/\m "faces"=some (.ref Γ.fa)/\m "records"=some (.ref Γ.rc)/\m "number"=some (.int ((Γ.own:Nat):Int))
  fv:∃ xs,H Γ.fa=some (.lst xs)/\BDs K H xs (Γ.hs.map dH)
  rv:BD K H (.ref Γ.rc) (.tuple (dR Γ.rs))
section
variable {K:Fg} {H w y:Hp} {u:Gam} {k nx A v:Int}
def MS.dk (M:MS K H u k nx):∃ a,H u.s=some (.dK a):=by obtain⟨n,m,p,_⟩:=M.pm;exact p.dk
def MS.kp (M:MS K H u k nx) (b:MS K w u A v) (x:Sm u.s H w):Kp H w:=by
 obtain⟨n,m,p,_⟩:=M.pm;obtain⟨d,c,a,_⟩:=b.pm;exact p.kp a x
def MS.fs (M:MS K H u k nx):u.fa≠u.s:=λz=>by
 obtain⟨a,e⟩:=M.dk;obtain⟨b,h,_⟩:=M.fv;rw[z,e] at h;cases h
def MS.same (M:MS K H u k nx) (x:aA H w):MS K w u k nx:=by
 obtain⟨n,m,p,h⟩:=M.pm;obtain⟨b,a,c⟩:=M.fv;exact⟨⟨n,m,p.same x,h⟩,⟨b,x _ _ a,c.same x⟩,M.rv.same x⟩
def MS.own (M:MS K H u k nx) (a:H L=none) (M1:MS K y u A v) (c:y L=some (.lst ys)):MS K (upd y L (.lst zs)) u A v:=by
 obtain⟨n,m,p,e⟩:=M.pm;obtain⟨i,h,p1,f⟩:=M1.pm;obtain⟨q,b,o⟩:=M.fv;obtain⟨j,l,g⟩:=M1.fv;have kp:Kp y (upd y L (.lst zs)):=cK (.inr ⟨_,c⟩);have d:u.fa≠L:=λz=>by rw[z,a] at b;cases b
 exact⟨⟨i,h,p.own a p1 c,f⟩,⟨j,by rw[ai d];exact l,g.kp kp⟩,M1.rv.kp kp⟩
def MS.pick (M:MS K H u k nx) (h:k<1000000) (c:0<many) (q:∀ (r:Nat) (a:Hp),((r:Nat):Int)<many->Sm u.s H a->MS K a u (k+1) nx->Q (.int ((r:Nat):Int)) a):tH K [.ref u.s,.int many] H Q:=by
 obtain⟨n,m,p,j,l,i,o⟩:=M.pm;obtain⟨f,d,e⟩:=M.fv;refine p.pick h c λr a g x b=>q r a g x ⟨⟨n,_,b,?_,?_,?_,?_⟩,⟨f,x _ _ M.fs d,e.kp (p.kp b x)⟩,M.rv.kp (p.kp b x)⟩
 all_goals (rw[bP _ _ (by left)];assumption)
def MS.nxt (M:MS K H u k nx):dC H u.s (.str "next") (some (.int nx)):=by
 obtain⟨n,m,p,a,_⟩:=M.pm;exact p.st.get a
def MS.fcs (M:MS K H u k nx):dC H u.s (.str "faces") (some (.ref u.fa)):=by
 obtain⟨n,m,p,_,a,_⟩:=M.pm;exact p.st.get a
def MS.rcs (M:MS K H u k nx):dC H u.s (.str "records") (some (.ref u.rc)):=by
 obtain⟨n,m,p,_,_,a,_⟩:=M.pm;exact p.st.get a
def MS.num (M:MS K H u k nx):dC H u.s (.str "number") (some (.int ((u.own:Nat):Int))):=by
 obtain⟨n,m,p,_,_,_,a⟩:=M.pm;exact p.st.get a
def MS.setN (M:MS K H u k nx) (a:Int):∃ b,gY H u.s (.str "next") (.int a) b/\Sm u.s H b/\MS K b u k a:=by
 obtain⟨n,m,p,g,r,q,t⟩:=M.pm;obtain⟨o,h,i⟩:=M.fv;obtain⟨b,e,mo,c⟩:=p.st.put g (.int a) (by have:=p.hn;omega);obtain⟨j,f,l⟩:=p.ns;have d:PM K b u.s u.sa n (dQ m "next" (.int a)) k:=⟨c,p.hn,by rw[bP _ _ (by left)];exact p.sc,p.ne,⟨j,SqL.mo f mo p.ne,l⟩,by rw[bP _ _ (by left)];exact p.hk,p.k0⟩;refine⟨b,e,(Mo.sm mo),⟨⟨n,_,d,dP _ _ _,?_,?_,?_⟩,⟨o,(Mo.sm mo) _ _ M.fs h,i.kp (p.kp d (Mo.sm mo))⟩,M.rv.kp (p.kp d (Mo.sm mo))⟩⟩
 all_goals (rw[bP _ _ (by left)];assumption)
end
def dK (p:Int×Bool×Nat):PyData:=.tuple [.int p.1,.bool p.2.1,.int ((p.2.2:Nat):Int)]
def KnV (K:Fg) (H:Hp) (kd:Addr) (ks:List (Int×Bool×Nat)):Prop:=∃ xs,H kd=some (.lst xs)/\BDs K H xs (ks.map dK)
def KnS (kn:Kn) (nx:Int) (ks:List (Int×Bool×Nat)):Prop:=∀ p∈ks,kn p.1=some p.2/\p.1<nx
structure GOk (Γ:Gam):Prop where
  hc:∀ p∈Γ.hs,p.2<=4
  hl:Γ.hs.length<=10
  ho:Γ.own<Γ.hs.length
  rl:Γ.rs.length<=3
  rr:∀ r∈Γ.rs,1<=r/\r<=4
structure Ask (K:Fg) (H:Hp) (Γ:Gam) (kd:Addr) (k nx:Int) (ks:List (Int×Bool×Nat)) (kn:Kn) (m:Nat):Prop where
  M:MS K H Γ k nx
  v:KnV K H kd ks
  s:KnS kn nx ks
  o:GOk Γ
  l:ks.length+4*m<=100
section
variable {K:Fg} {H n H1:Hp} {i:Gam} {j:Addr} {k nx q g:Int} {ks:List (Int×Bool×Nat)} {kn:Kn} {m r:Nat}
def Ask.ne (A:Ask K H i j k nx ks kn m):j≠i.s:=λz=>by
 obtain⟨a,e⟩:=A.M.dk;obtain⟨b,h,_⟩:=A.v;rw[z,e] at h;cases h
def Ask.go (A:Ask K H i j k nx ks kn m) (x:Sm i.s H n) (M:MS K n i q g) (f:nx<=g) (e:r<=m):Ask K n i j q g ks kn r:=by
 obtain⟨d,b,c⟩:=A.v;exact⟨M,⟨d,x _ _ A.ne b,c.kp (A.M.kp M x)⟩,λp a=>⟨(A.s p a).1,by have:=(A.s p a).2;omega⟩,A.o,by have:=A.l;omega⟩
end
def cst:Nat->Nat
  | 0=>3
  | m+1=>8*cst m+12
def ja (m:Nat):3<=cst m:=by
 cases m with
 | zero=>exact Nat.le_refl _
 | succ m=>show 3<=8*cst m+12;omega
abbrev psE:List Str:=["_law_state","_law_known","_law_funs","_law_deep"]
abbrev psM:List Str:=["_law_state","_law_known","_law_funs","_law_deep","_law_many_here"]
inductive Cv (K:Fg) (m c:Nat) (vs:List V) (H:Hp) (Q:VK):Prop
  | mk (Γ:Gam) (kd:Addr) (k nx:Int) (ks:List (Int×Bool×Nat)) (kn:Kn) (n:Nat) (h0:vs=[.ref Γ.s,.ref kd,.int ((n:Nat):Int),.int ((m:Nat):Int)]) (h1:Ask K H Γ kd k nx ks kn m) (h2:k+((c:Nat):Int)<=900000)
    (q:∀ v d k' nx' H',Sm Γ.s H H'->MS K H' Γ k' nx'->k'<=k+?R->BD K H' v d->d6 Γ m kn n nx d nx'->Q v H'):Cv K m c vs H Q
def spE (K:Fg) (m:Nat):Sp:=λvs H Q _=>Cv K m (cst m) vs H Q
def spB (K:Fg) (m:Nat):Sp:=λvs H Q _=>m≠0/\Cv K m (cst m-1) vs H Q
inductive xZ (K:Fg) (m:Nat) (vs:List V) (H:Hp) (Q:VK):Prop
  | mk (Γ:Gam) (kd:Addr) (k nx:Int) (ks:List (Int×Bool×Nat)) (kn:Kn) (n c m':Nat) (hm:m=m'+1) (h0:vs=[.ref Γ.s,.ref kd,.int ((n:Nat):Int),.int ((m:Nat):Int),.int ((c:Nat):Int)]) (h1:Ask K H Γ kd k nx ks kn m) (h8:c<=8) (h2:k+((c*cst m':Nat):Int)<=900000)
    (q:∀ v ds k' nx' H',Sm Γ.s H H'->MS K H' Γ k' nx'->k'<=k+((c*cst m':Nat):Int)->BD K H' v (.tuple ds)->ds.length=c->cQ Γ m' kn n nx ds nx'->Q v H'):xZ K m vs H Q
def tZ (K:Fg) (m:Nat):Sp:=λvs H Q _=>xZ K m vs H Q
def sU (a b:PDs):dps (a++b)=max (dps a) (dps b):=by
 induction a with
 | nil=>rw[List.nil_append,show dps []=0 by rw[dps],Nat.zero_max]
 | cons x r c=>rw[List.cons_append,dps,dps,c,Nat.max_assoc]
section
variable {P:Program} {w:World} {K:Fg} {M:SOV} {base:Heap}
abbrev sCa:Stmt:=top 59
abbrev nCa:List Str:=["_law_state","_law_many_here","_law_functions","_law_k","_law_calls","_law_head"]
def DQ:aM nCa ["_law_state"] (ad sCa):=fsM
inductive B4 (K:Fg) (vs:List V) (H:Hp) (Q:VK):Prop
  | mk (s sa:Addr) (n:Nat) (m:Str->Option V) (k:Int) (h0:vs=[.ref s]) (h1:PM K H s sa n m k) (h2:k<=900000)
    (q:∀ v fs m' k' H',Sm s H H'->PM K H' s sa n m' k'->k'<=k+30->BD K H' v (.tuple [.tuple fs,.tuple [],.tuple []])->wts fs<=1000->dps fs<=20->Q v H'):B4 K vs H Q
def Dp (K:Fg):Sp:=λvs H Q _=>B4 K vs H Q
def GN:(["_law_one","_law_state","_law_many_here"]:List Str).Nodup:=by left
def w4:List Str:=["function","function","function","deep"]
def EQ (D:Def K M "_law_callers" sCa) (T:Blt K M) (az:Fn P w K M base "_law_pick" 2 ["_law_state","_law_many_here"] (jo K)):Fn P w K M base "_law_callers" 3 ["_law_state"] (Dp K):=by
 refine D.fn DQ ?P (λ_ _ _ _ _ _ us hl=>by obtain⟨a,rfl⟩:=dM hl;rfl) (λf kb A outer s0 H vs Q E hr h=>?_)
 · obtain⟨s,sa,n,m,k,rfl,_⟩:=h;rfl
 · obtain⟨s,sa,n,m,k,rfl,p0,hk,q⟩:=h;have nd:=DQ.nd;ext d
   refine⟨_,(pE (pN (i:=1) nd U (Or.inr U) (aT bY pG (aB az ?S U (pA ?C (pA pG pC)))))
 (pE (pN (i:=2) nd U ?D (bb pC))
 (pE (cu PassesOwn.never U (bE U T.range (pA ?E pC)) (ax (i:=3) nd U ?D)
 (pE (iQ (i0:=4) (own:=["_law_one"]) (outs:=[(0,"_law_state"),(1,"_law_many_here")]) U (aG.of (ad sCa) nCa) (bE U T.range (pA (aT bY pG (aB az ?S U (pA ?C (pA pG pC)))) pC)) (λ_ _ _ _=>⟨(ax (i:=0) GN U ?D),bC,(aN (pA pD (pA (aB az ?S U (pA ?E (pA (pv 2) pC))) (pA (aN pC) pC))))⟩) nd U U)
 (pE (pN (i:=5) nd U ?D (aj b8 (bb (pA pD (pA pD (pA pD (pA pD pC))))) (aB az ?S U (pA ?C (pA pG pC))) ?H))
 (pH (cY (dL (pv 2) (pA (aN (pA (pv 5) (pA pG (pA (aN (pA pD (pA (fg T.tuple (pA (aT sr (pv 4) (bb (pA (aN (pA pD (pA (pv 3) pC))) pC))) pC)) pC))) pC)))) pC)))))))
 (pH (ak (aN (pA (fg T.tuple (pA (pv 2) pC)) (pA (aN pC) (pA (aN pC) pC))))))))),?_⟩
   ext b;refine ab λsw jB=>?_;refine⟨_,U,p0.pick ?A ?G λr1 H1 JF x1 p1=>?_⟩;refine⟨_,_,U,U,jB _ _ (ab λjP f9=>?_)⟩;refine⟨jl,λL hL=>?_⟩;have kL:=smu (o:=HO.lst []) hL;refine f9 _ _ (ab λjx fC=>?_);refine⟨_,U,_,U,by omega,by omega,?_⟩;have kp1:=p0.kp p1 x1;refine aV.by (bo (lo:=0) (n:=(1+((r1:Nat):Int)).toNat)) (λi R Hi=>Sm s H Hi/\(∃ m' k',PM K Hi s sa n m' k'/\k'<=k+1+4*?J)/\(∃ S v,Hi L=some (.lst S)/\BDs K Hi S v/\v.length=i/\∀ d∈v,wt d<=60/\dp d<=6)/\∃ x3 x4 x5,R=[some (.ref s),some (.int (1+((r1:Nat):Int))),some (.ref L),x3,x4,x5])
    ⟨x1.same kL,⟨_,_,p1.same kL,by omega⟩,⟨[],[],pF,.nil,U,λd hd=>by cases hd⟩,_,_,_,U⟩ (λ_ _ _ _ _=>trivial) ?_ ?_
   · rintro i u R Hi hu ⟨xi,⟨mi,ki,l,Ke⟩,⟨S,v,Ia,Iz,Jh,J6⟩,x3,x4,x5,rfl⟩;obtain rfl:=hV hu;have hi:i<(1+((r1:Nat):Int)).toNat:=by have:=(gES.mp hu).1;rwa [bB] at this
     rw[aL];refine ab λHJ Iy=>?_;rw[dU,bU];refine⟨_,U,l.pick ?A ?G λr2 H2 IU x2 p2=>⟨_,_,U,U,_,U,by omega,by omega,λG hG=>?_⟩⟩;have kG:=smu (o:=HO.lst []) hG;have LS:L≠s:=λz=>by obtain⟨kv,e⟩:=l.dk;rw[z,e] at Ia;cases Ia
     refine bj.by (bo (n:=(1+((r2:Nat):Int)).toNat)) (λj R Hj=>Sm s H2 Hj/\(∃ m' k',PM K Hj s sa n m' k'/\k'<=ki+1+((j:Nat):Int))/\(∃ c f,Hj G=some (.lst c)/\BDs K Hj c f/\f.length=j/\wts f=8*j/\dps f<=2)/\∃ y,R=[y,some (.ref s),some (.int (1+((r1:Nat):Int)))])
      ⟨Sm.of kG,⟨_,_,p2.same kG,by omega⟩,⟨[],[],pF,.nil,U,U,Nat.zero_le _⟩,_,U⟩ (λ_ _ _ _ _=>trivial) ?_ ?_
     · rintro j u R Hj hu ⟨xj,⟨mj,kj,N,Kr⟩,⟨c,f,Id,IV,Io,Y,Jt⟩,y,rfl⟩;have hj:j<(1+((r2:Nat):Int)).toNat:=by have:=(gES.mp hu).1;rwa [bB] at this
       rw[aL,fq];refine aJ ⟨_,U,_,U,N.pick ?A ?A λr3 H3 Kd Z p3=>⟨jl,λe he=>⟨ma,λt ht=>?_⟩⟩⟩;have GS:G≠s:=λz=>by obtain⟨kv,e⟩:=p2.dk;rw[z,e] at hG;cases hG
       have k1:=smu (o:=HO.tup []) he;have O:=smu (o:=HO.tup [V.str "call",V.int ((r3:Nat):Int),V.ref e]) ht;have b:=k1.trans O;have C:=b _ _ (Z _ _ GS Id);have tt:BD K (upd (upd H3 e (.tup [])) t (.tup [V.str "call",V.int ((r3:Nat):Int),V.ref e])) (.ref t) (.tuple [.str "call",.int ((r3:Nat):Int),.tuple []]):=.tup (SqT.of pF) (.cons (.str _) (.cons (.int _) (.cons (.tup (SqT.of (O _ _ pF)) .nil) .nil)));have hz4:=(IV.kp (N.kp p3 Z)).same b;have p4:=p3.same b;have x4':=(xj.trans Z).same b;generalize upd (upd H3 e (.tup [])) t (.tup [V.str "call",V.int ((r3:Nat):Int),V.ref e])=H4 at C tt hz4 p4 x4' ⊢;have hzl:=IV.length;have B:Kp H4 (upd H4 G (.lst (c++[.ref t]))):=cK (.inr ⟨_,C⟩);refine⟨c,C,by omega,x4'.put hG,⟨_,_,p2.own hG p4 C,by omega⟩,⟨_,f++[_],pF,(hz4.snoc tt).kp B,by simp[Io],?_,?_⟩,_,U⟩
       · rw[cx,Y];simp only[wts,aC,w_s "call" (k:=4),w_i];omega
       · rw[sU];simp only[dps,bK,d_s,d_i];omega
     · rintro R Hj ⟨xj,⟨mj,kj,N,Kr⟩,⟨c,f,Id,IV,Io,Y,Jt⟩,y,rfl⟩;rw[bB] at Io Y Kr;have xij:=x2.trans xj;have hLj:=xij _ _ LS Ia;have hyj:=Iz.kp (l.kp N xij);rw[aL];refine Iy _ _ (ab λBZ Ik=>?_);refine⟨Bc,λW hW=>?_⟩;have kW:=smu (o:=HO.lst (w4.map V.str)) hW;have pW:=N.same kW;refine⟨_,U,pW.pick ?A ?G λr5 H5 J3 HS p5=>?_⟩;have WS:W≠s:=λz=>by obtain⟨kv,e⟩:=N.dk;rw[z,e] at hW;cases hW
       have I:r5<w4.length:=by show r5<4;omega
       refine⟨W,_,_,V.str w4[r5],U,U,SqL.of (HS _ _ WS pF),pI (by simp[I]),Ik _ _ ?_⟩;have hw4:w4[r5].length<=8:=by
        have:∀ z∈w4,z.length<=8:=by left
        exact this _ (List.getElem_mem I)
       generalize w4[r5]=hd at hw4 ⊢;have GS:G≠s:=λz=>by obtain⟨kv,e⟩:=N.dk;rw[z,e] at Id;cases Id
       have g:=(Sm.of (s:=s) kW).trans HS;have hG5:=g _ _ GS Id;have hL5:=g _ _ LS hLj;have B:=N.kp p5 g;have hz5:=IV.kp B;have hy5:=hyj.kp B;have X5:=(xi.trans xij).trans g;clear g HS pW kW;refine⟨_,U,.inl ⟨U,_,SqL.of hL5⟩,?_⟩;refine⟨_,U,_,U,_,U,jk,λJ Ie=>⟨v3,λl1 Jq=>?_⟩⟩;have k1:=smu (o:=HO.tup [V.str "number",V.int ?J]) Ie;have O:=smu (o:=HO.lst [V.ref J]) Jq;have hzl:=IV.length;have k12:=k1.trans O;refine⟨G,l1,c,[.ref J],U,U,SqL.of (k12 _ _ hG5),SqL.of pF,by simp;omega,λp hp=>?_⟩;have k3:=smu (o:=HO.lst (c++[V.ref J])) hp;refine⟨p,_,U,.inl ⟨SqL.of pF,λF hF=>?_⟩⟩;have k4:=smu (o:=HO.tup (c++[V.ref J])) hF;have k34:=(k12.trans k3).trans k4;have tF:BD K _ (.ref F) (.tuple (f++[.tuple [.str "number",.int ?J]])):=.tup (SqT.of (pF (o:=HO.tup (c++[V.ref J])))) ((hz5.same k34).snoc (.tup (SqT.of (k4 _ _ (k3 _ _ (O _ _ pF)))) (.cons (.str _) (.cons (.int _) .nil))));generalize upd (upd (upd (upd H5 J (.tup [V.str "number",V.int ?J])) l1 (.lst [V.ref J])) p (.lst (c++[V.ref J]))) F (.tup (c++[V.ref J]))=H6 at k34 tF ⊢;refine⟨jk,λt2 IC=>⟨ma,λt3 J4=>?_⟩⟩;have k5:=smu (o:=HO.tup [V.str "do",V.ref F]) IC;have k6:=smu (o:=HO.tup [V.str hd,V.int 0,V.ref t2]) J4;have tf:BD K _ (.ref t3) (.tuple [.str hd,.int 0,.tuple [.str "do",.tuple (f++[.tuple [.str "number",.int ?J]])]]):=.tup (SqT.of (pF (o:=HO.tup [V.str hd,V.int 0,V.ref t2]))) (.cons (.str _) (.cons (.int _) (.cons (.tup (SqT.of (k6 _ _ pF)) (.cons (.str _) (.cons ((tF.same k5).same k6) .nil))) .nil)));have b:=(k34.trans k5).trans k6;generalize upd (upd H6 t2 (.tup [V.str "do",V.ref F])) t3 (.tup [V.str hd,V.int 0,V.ref t2])=H7 at b tf ⊢;have hL7:=b _ _ hL5;have hyl:=Iz.length;have kp8:Kp H7 (upd H7 L (.lst (S++[.ref t3]))):=cK (.inr ⟨_,hL7⟩);refine⟨L,S,_,U,U,hL7,by omega,⟨(X5.same b).put (x1.none LS hL),⟨_,_,p1.own hL (p5.same b) hL7,?_⟩,⟨_,v++[_],pF,((hy5.same b).snoc tf).kp kp8,by simp[Jh],λd hd'=>?_⟩,_,_,_,U⟩⟩
       · omega
       · rcases mAp.mp hd' with z | z
         · exact J6 d z
         · rw[mSg.mp z];have e1:=cx f [.tuple [.str "number",.int ?J]];have e2:=sU f [.tuple [.str "number",.int ?J]];simp only[wts,aC,dps,bK,w_s "number" (k:=6),w_s "do" (k:=2),dv,w_i,d_s,d_i] at e1 e2 ⊢;omega
   · rintro R Hi ⟨xi,⟨mi,ki,l,Ke⟩,⟨S,v,Ia,Iz,Jh,J6⟩,x3,x4,x5,rfl⟩;rw[bB] at Jh Ke;refine fC _ _ ?_;refine⟨_,U,L,_,U,.inl ⟨SqL.of Ia,λF hF=>⟨jl,λe1 he1=>⟨jl,λe2 JK=>⟨ma,λt ht=>?_⟩⟩⟩⟩⟩;have k1:=smu (o:=HO.tup S) hF;have O:=smu (o:=HO.tup []) he1;have k3:=smu (o:=HO.tup []) JK;have k4:=smu (o:=HO.tup [V.ref F,V.ref e1,V.ref e2]) ht;have b:=((k1.trans O).trans k3).trans k4;have hw:wts v<=60*v.length:=by
      clear Jh Iz
      induction v with
      | nil=>exact Nat.zero_le _
      | cons d r ih =>
       have h1:=(J6 d (mCS ..)).1;have h2:=ih λx hx=>J6 x (mCM _ hx);rw[wts,List.length_cons];omega
     refine q _ v _ _ _ (xi.same b) (l.same b) ?A (.tup (SqT.of pF) (.cons (.tup (SqT.of (k4 _ _ (k3 _ _ (O _ _ pF)))) (Iz.same b)) (.cons (.tup (SqT.of (k4 _ _ (k3 _ _ pF))) .nil) (.cons (.tup (SqT.of (k4 _ _ pF)) .nil) .nil)))) ?A (Nat.le_trans (jF λx hx=>(J6 x hx).2) ?G)
end
def vy (m:Nat):(((m+1:Nat):Int)-1)=((m:Nat):Int):=by omega
section
variable {P:Program} {w:World} {K:Fg} {mg:SOV} {base:Heap}
abbrev sMn:Stmt:=top 45
abbrev nMn:List Str:=["_law_state","_law_known","_law_funs","_law_deep","_law_many_here","_law_found","_law_k"]
def Bt:aM nMn psM (ad sMn):=fsM
def BQ (D:Def K mg "_law_many" sMn):Fn P w K mg base "_law_many" (l+1) psM (tZ K 0):=by
 refine D.fn Bt ?P (λ_ _ _ _ _ _ r p=>by obtain⟨a,b,c,d,e,rfl⟩:=qP p;rfl) (λf t A f s H v Q E u h=>?_)
 · obtain⟨Γ,i,k,o,m,j,n,c,q,g,_⟩:=h;cases g
 · obtain⟨Γ,i,k,o,m,j,n,c,q,g,_⟩:=h;cases g
def Ew (D:Def K mg "_law_many" sMn) (T:Blt K mg) (gB:Fn P w K mg base "_law_e" l psE (spE K m)):Fn P w K mg base "_law_many" (l+1) psM (tZ K (m+1)):=by
 refine D.fn Bt ?P (λ_ _ _ _ _ _ us hl=>by obtain⟨a,b,c,d,e,rfl⟩:=qP hl;rfl) (λf kb A R s0 H vs Q E hr h=>?_)
 · obtain⟨Γ,S,k,C,ks,N,n,c,m',hm,rfl,_⟩:=h;rfl
 · obtain⟨Γ,S,k,C,ks,N,n,c,m',hm,rfl,F,h8,hk,q⟩:=h;obtain rfl:=Nat.succ.inj hm;have nd:=Bt.nd;ext c
   refine⟨_,(pE (pN (i:=5) nd U ?D (bb pC))
 (pE (cu PassesOwn.never U (bE U T.range (pA (pv 4) pC)) (ax (i:=6) nd U ?D)
 (pH (cY (dL (pv 5) (pA (aB gB hr U (pA ?C (pA ?E (pA (pv 2) (pA (aT dX (pv 3) pG) pC))))) pC)))))
 (pH (ak (fg T.tuple (pA (pv 5) pC)))))),?_⟩
   refine ab λsw jB=>?_;refine⟨jl,λL y=>jB _ _ (ab λjP f9=>?_)⟩;have kL:=smu (o:=HO.lst []) y;have LS:L≠Γ.s:=λz=>by obtain⟨kv,e⟩:=F.M.dk;rw[z,e] at y;cases y
   refine⟨_,U,_,U,by omega,by omega,?_⟩;refine aV.by (bo (lo:=0) (n:=(?R).toNat)) (λi σ x=>Sm Γ.s H x/\(∃ t j k' r,MS K x Γ k' r/\k'<=k+((i*cst m:Nat):Int)/\C<=r/\x L=some (.lst t)/\BDs K x t j/\j.length=i/\cQ Γ m N n C j r)/\∃ Z,σ=[some (.ref Γ.s),some (.ref S),some (.int ((n:Nat):Int)),some (.int ((m+1:Nat):Int)),some (.int ?R),some (.ref L),Z])
    ⟨Sm.of kL,⟨[],[],k,C,F.M.same kL,by omega,by omega,pF,.nil,U,.nil⟩,_,U⟩ (λ_ _ _ _ _=>trivial) ?_ ?_
   · rintro i u σ x hu ⟨B,⟨t,j,k1,p,M1,g,Jx,I,J,G,ms⟩,Z,rfl⟩;have hi:i<c:=by have:=(gES.mp hu).1;rwa [bB,Int.toNat_natCast] at this
     have hmul:(i+1)*cst m<=c*cst m:=Nat.mul_le_mul_right _ hi;have hs1:(i+1)*cst m=i*cst m+cst m:=Nat.succ_mul _ _;rw[aL];refine⟨_,U,.inl ⟨U,_,SqL.of I⟩,_,U,_,U,_,U,_,U,_,_,U,U,?_⟩;refine⟨Γ,S,k1,p,ks,N,n,by rw[vy];rfl,F.go B M1 Jx (Nat.le_succ m),by omega,λv d k2 nx2 H2 W M2 Ig tv md=>?_⟩;have f:=W _ _ LS I;have hyl:=J.length;have hle:=md.le;have Y:Kp H2 (upd H2 L (.lst (t++[v]))):=cK (.inr ⟨_,f⟩);exact⟨L,t,v,U,U,f,by omega,(B.trans W).put y,⟨_,j++[d],k2,nx2,F.M.own y M2 f,by omega,by omega,pF,((J.kp (M1.kp M2 W)).snoc tv).kp Y,by simp[G],ms.snoc md⟩,_,U⟩
   · rintro σ x ⟨B,⟨t,j,k1,p,M1,g,Jx,I,J,G,ms⟩,Z,rfl⟩;rw[bB,Int.toNat_natCast] at G g;refine f9 _ _ ⟨_,U,L,_,U,.inl ⟨SqL.of I,λF hF=>?_⟩⟩;have O:=smu (o:=HO.tup t) hF;exact q _ j k1 p _ (B.same O) (M1.same O) g (.tup (SqT.of pF) (J.same O)) G ms
end
def kY {v:Bool} {a:Nat} {x:Int}:∀ {l:List Int} {kn:Kn},x∉l->cS kn v a l x=kn x
 | [],kn,_=>rfl
 | i::r,kn,h=>by
  show cS (λx=>if x=i then some (v,a) else kn x) v a r x=_;rw[kY λz=>h (mCM _ z)];exact if_neg λz=>h (by rw[z];exact mCS ..)
def mq {v:Bool} {a:Nat} {x:Int}:∀ {l:List Int} {kn:Kn},x∈l->cS kn v a l x=some (v,a)
 | i::r,kn,h=>by
  show cS (λx=>if x=i then some (v,a) else kn x) v a r x=_;by_cases hx:x∈r
  · exact mq hx
  · rw[kY hx]
    rcases List.mem_cons.mp h with rfl | h
    · exact if_pos U
    · exact absurd h hx
def rQ (h:x∈rgI i c):i<=x/\x<i+?R:=by
 unfold rgI at h;obtain⟨t,a,rfl⟩:=List.mem_map.mp h;have:=List.mem_range.mp a;omega
def KnS.more (h:KnS kn nx ks) (v:Bool) (a c:Nat):KnS (cS kn v a (rgI nx c)) (nx+?R) (ks++(rgI nx c).map λi=>(i,v,a)):=λp e=>by
 rcases mAp.mp e with z | z
 · obtain⟨d,f⟩:=h p z;exact⟨(kY λy=>by have:=(rQ y).1;omega).trans d,by omega⟩
 · obtain⟨i,b,rfl⟩:=List.mem_map.mp z;exact⟨mq b,(rQ b).2⟩
def tD {K:Fg} (a:List Int):BDs K H (a.map V.int) (a.map .int):=by
 induction a with
 | nil=>exact .nil
 | cons i r b=>exact .cons (.int i) b
section
variable {P:Program} {w:World} {K:Fg} {x:SOV} {base:Heap}
abbrev sBi:Stmt:=top 47
abbrev nBi:List Str:=["_law_state","_law_known","_law_funs","_law_deep","_law_head","_law_many_here","_law_ids","_law_inside","_law_inner","_law_thing"]
def Bv:aM nBi psE (ad sBi):=fsM
def F1:(["_law_k","_law_state"]:List Str).Nodup:=by left
def EX:(["_law_one","_law_inside","_law_head"]:List Str).Nodup:=by left
def wB:List Str:=["let","var","each","fun"]
def BV (D:Def K x "_law_binder" sBi):Fn P w K x base "_law_binder" (l+1) psE (spB K 0):=by
 refine D.fn Bv ?P (λ_ _ _ _ _ _ j f=>by obtain⟨a,b,c,d,rfl⟩:=qQ f;rfl) (λf m A e i H k Q E g h=>?_)
 · exact absurd U h.1
 · exact absurd U h.1
def ES (D:Def K x "_law_binder" sBi) (T:Blt K x) (az:Fn P w K x base "_law_pick" 2 ["_law_state","_law_many_here"] (jo K)) (gB:Fn P w K x base "_law_e" (l+3) psE (spE K m)):Fn P w K x base "_law_binder" (l+4) psE (spB K (m+1)):=by
 refine D.fn Bv ?P (λ_ _ _ _ _ _ us hl=>by obtain⟨a,b,c,d,rfl⟩:=qQ hl;rfl) (λf kb A outer s0 H vs Q E hr h=>?_)
 · obtain⟨_,Γ,kd,k,f,ks,kn,n,rfl,_⟩:=h;rfl
 · obtain⟨_,Γ,kd,k,f,ks,kn,n,rfl,A0,hk,q⟩:=h;have nd:=Bv.nd;have hu:=dN hr;ext c
   have Ip:cst (m+1)-1=8*cst m+11:=rfl;rw[Ip] at hk q;refine⟨_,(@pE _ _ _ _ _ (@pN _ _ 4 _ _ _ _ nd U (Or.inr U) (@aj _ _ _ _ _ _ _ b8 (@bb _ _ _ _ (@pA _ _ _ _ _ pD (@pA _ _ _ _ _ pD (@pA _ _ _ _ _ pD (@pA _ _ _ _ _ pD pC ?K) ?K) ?K) ?K)) ?Y ?H) ?K (by exact Or.inl U))
 (pE (pN (i:=5) nd U ?D pG)
 (pE (aE (pP aZ (pv 4) pD (pQ _)) (pH (pN (i:=5) nd U ?D ?Y)) am)
 (pE (pN (i:=6) nd U ?D (fg T.tuple (pA (cO (own:=["_law_k"]) (outs:=[(0,"_law_state")]) U (aG.of (ad sBi) nBi) (bE U T.range (pA (pv 5) pC)) (λ_ _ _ _=>⟨(ax (i:=0) F1 U ?D),bC,(aT bY (pM hu ?E pD ?H) ?C)⟩)) pC)))
 (pE (dr hu ?C pD (aT bY (pM hu ?C pD ?H) (pv 5)) U)
 (pE (pN (i:=7) nd U (Or.inr U) (aT bY (pv 2) (CK T.int (pA (bL aZ (pv 4) pD (pQ _)) pC))))
 (pE (pN (i:=8) nd U ?D (aT sr ?E (cO (own:=["_law_one"]) (outs:=[(7,"_law_inside"),(4,"_law_head")]) U (aG.of (ad sBi) nBi) (cI (pv 6)) (λ_ _ _ _=>⟨(ax (i:=0) EX U ?D),bC,(aN (pA ?C (pA (bL aZ (pv 2) pD (pQ _)) (pA ?E pC))))⟩))))
 (pE (aE (pP aZ (pv 4) pD (pQ _)) (pH (ak (aN (pA pD (pA (pv 6) (pA (aB gB (hr.mono ?A) U (pA ?C (pA (pv 8) (pA (pv 7) (pA (aT dX (pv 3) pG) pC))))) pC)))))) am)
 (pE (pN (i:=9) nd U ?D (aB gB (hr.mono ?A) U (pA ?C (pA ?E (pA (pv 2) (pA (aT dX (pv 3) pG) pC))))))
 (pH (ak (aN (pA (pv 4) (pA (aj ae (pv 6) pG ?H) (pA (pv 9) (pA (aB gB (hr.mono ?A) U (pA ?C (pA (pv 8) (pA (pv 2) (pA (aT dX (pv 3) pG) pC))))) pC)))))))))))))))),?_⟩
   ext b;refine ab λsw jB=>?_;refine⟨Bc,λW hW=>?_⟩;have kW:=smu (o:=HO.lst (wB.map V.str)) hW;have MW:=A0.M.same kW;refine⟨_,U,MW.pick ?A ?G λr1 H1 JF x1' M1=>?_⟩;have WS:W≠Γ.s:=λz=>by obtain⟨kv,e⟩:=A0.M.dk;rw[z,e] at hW;cases hW
   have hr1':r1<wB.length:=by show r1<4;omega
   refine⟨W,_,_,V.str wB[r1],U,U,SqL.of (x1' _ _ WS pF),pI (by simp[hr1']),jB _ _ (ab λjP f9=>?_)⟩;have hhd:wB[r1]="fun"\/(wB[r1]≠"fun"/\wB[r1]∈lve):=by
    have:∀ z∈wB,z="fun"\/(z≠"fun"/\z∈lve):=by left
    exact this _ (List.getElem_mem hr1')
   generalize wB[r1]=hd at hhd ⊢;have x1:=(Sm.of (s:=Γ.s) kW).trans x1';clear x1' MW kW WS hW;ext q;have bT:∀ (c:Nat) (H2:Hp) (k2:Int),(hd="fun"/\c<=4)\/(hd≠"fun"/\hd∈lve/\c=1)->Sm Γ.s H H2->MS K H2 Γ k2 f->k2<=k+2->jx [some (.ref Γ.s),some (.ref kd),some (.int ((n:Nat):Int)),some (.int ((m+1:Nat):Int)),some (.str hd),some (.int ?R),none,none,none,none] H2:=by
    intro c H2 k2 hc x2 M2 Ig;have KJ:c<=4:=by rcases hc with ⟨_,h⟩ | ⟨_,_,h⟩ <;> omega
    ext h;rw[dU,ie,dq,bU];refine⟨_,U,_,U,by omega,by omega,λG hG=>?_⟩;have kG:=smu (o:=HO.lst []) hG;refine bj.by (bo (n:=(?R).toNat)) (λj σ g=>aA H2 g/\g G=some (.lst ((rgI f j).map V.int))/\∃ y,σ=[y,some (.ref Γ.s)]) ⟨kG,pF,_,U⟩ (λ_ _ _ _ _=>trivial) ?_ ?_
    · rintro j u σ g Ix ⟨sj,Id,y,rfl⟩;obtain rfl:=hV Ix;have hj:j<c:=by have:=(gES.mp Ix).1;rwa [bB,Int.toNat_natCast] at this
      rw[aL,fq];refine aJ ⟨_,U,Γ.s,_,U,(M2.same sj).nxt,_,U,_,_,U,U,?_⟩;refine⟨_,Id,by rw[lMp,i5];omega,aK sj hG,?_,_,U⟩;rw[pF,gJ,List.map_append];rfl
    rintro σ g ⟨sj,Id,y,rfl⟩;rw[bB,Int.toNat_natCast] at Id;refine⟨G,_,U,.inl ⟨SqL.of Id,λF hF=>?_⟩⟩;have kF:=smu (o:=HO.tup ((rgI f c).map V.int)) hF;have s23:=sj.trans kF;have hF3:=pF (H:=g) (a:=F) (o:=HO.tup ((rgI f c).map V.int));have M3:=M2.same s23;have x3:=x2.same s23;generalize upd g F (.tup ((rgI f c).map V.int))=H3 at hF3 M3 x3 ⊢;clear sj Id kF s23 hF;refine gH _ _ (ab λoX iD=>?_);obtain⟨H4,hp4,x4',M4⟩:=M3.setN (f+?R);refine⟨_,U,Γ.s,_,U,M3.nxt,_,U,_,_,U,U,_,U,Γ.s,H4,U,hp4,?_⟩;have FS:F≠Γ.s:=λz=>by obtain⟨kv,e⟩:=M3.dk;rw[z,e] at hF3;cases hF3
    have hF4:=x4' _ _ FS hF3;have x4:=x3.trans x4';clear hp4 hF3;refine iD _ _ (ab λsv jj=>?_);refine⟨_,U,_,U,U,.inr ⟨_,U,_,_,U,U,jj _ _ (ab λyn mD=>?_)⟩⟩;obtain⟨n',Kz⟩:∃ n':Nat,n'=n+if hd="fun" then 1 else 0:=⟨_,rfl⟩
    have en:(((n:Nat):Int)+if decide (V.str hd=V.str "fun")=true then 1 else 0)=((n':Nat):Int):=by
     rw[Kz];by_cases e:hd="fun"
     · simp[e]
     · simp[e]
    rw[en];obtain⟨xs,hkd,hxs⟩:=A0.v;have A4:Ask K H4 Γ kd k2 (f+?R) ks kn m:=A0.go x4 M4 ?A (Nat.le_succ m);obtain⟨xs4,hkd4,hxs4⟩:=A4.v;rw[dU,kU];refine⟨_,U,?_⟩;rw[bU];refine⟨_,U,F,U,⟨_,SqT.of hF4⟩,λG2 Jl=>?_⟩;have kG2:=smu (o:=HO.lst []) Jl;refine bj.by (cq (xs:=(rgI f c).map V.int)) (λj σ g=>aA H4 g/\(∃ ys,g G2=some (.lst ys)/\BDs K g ys (((rgI f c).take j).map λi=>dK (i,decide (hd="var"),n'))/\ys.length=j)/\∃ y,σ=[y,some (.int ((n':Nat):Int)),some (.str hd)]) ⟨kG2,⟨[],pF,.nil,U⟩,_,U⟩ (λj σ g _ h=>SqT.of (h.1 _ _ hF4)) ?_ ?_
    · rintro j u σ g Ix ⟨sj,⟨ys,Id,Iz,hyl⟩,y,rfl⟩;rw[gEM] at Ix;obtain⟨i,hi,rfl⟩:=oMS.mp Ix;have hj:j<c:=by have:=(gES.mp hi).1;rwa [i5] at this
      rw[aL,fq];refine aJ ⟨_,U,_,U,U,_,U,ma,λt ht=>?_⟩;have r:=smu (o:=HO.tup [V.int i,V.bl (decide (V.str hd=V.str "var")),V.int ((n':Nat):Int)]) ht;have hGt:=r _ _ Id;have ev:decide (V.str hd=V.str "var")=decide (hd="var"):=by simp
      refine⟨ys,hGt,by omega,aK (sj.trans r) Jl,⟨_,pF,?_,by simp[hyl]⟩,_,U⟩;rw[tAO,hi,Option.toList_some,List.map_append];refine BDs.kp (cK (.inr ⟨_,hGt⟩)) ((Iz.same r).snoc (.tup (SqT.of pF) (.cons (.int _) (.cons ?_ (.cons (.int _) .nil)))));rw[ev];exact .bl _
    rintro σ g ⟨sj,⟨ys,Id,Iz,hyl⟩,y,rfl⟩;rw[lMp,i5] at Iz hyl;rw[List.take_of_length_le (by rw[i5];exact Nat.le_refl _)] at Iz;have hkl:=hxs4.length;rw[lMp] at hkl;have hl4:=A4.l;refine⟨kd,G2,xs4,ys,U,U,SqL.of (sj _ _ hkd4),SqL.of Id,by omega,λp hp=>?_⟩;have kp_:=smu (o:=HO.lst (xs4++ys)) hp;have s46:=sj.trans kp_;have M6:=M4.same s46;have x6:=x4.same s46;have hF6:=s46 _ _ hF4;have A6:Ask K (upd g p (.lst (xs4++ys))) Γ p k2 (f+?R) (ks++(rgI f c).map λi=>(i,decide (hd="var"),n')) (cS kn (decide (hd="var")) n' (rgI f c)) m :=
     ⟨M6,⟨_,pF,by rw[List.map_append,List.map_map];exact (hxs4.same s46).app (Iz.same kp_)⟩,KnS.more A0.s _ _ _,A0.o,by rw[lAp,lMp,i5];have:=A0.l;omega⟩
    generalize upd g p (.lst (xs4++ys))=H6 at M6 x6 hF6 A6 ⊢;clear sj Id Iz kp_ s46 hp kG2 Jl;refine mD _ _ (ab λBX qX=>?_);refine ?T
    rcases hc with ⟨e,_⟩ | ⟨e1,e2,rfl⟩
    · subst e;have en':n'=n+1:=Kz;subst en';refine pK ?B ⟨_,U,_,U,_,U,_,U,_,U,_,_,U,U,Γ,p,k2,_,_,_,n+1,by rw[vy];rfl,A6,by have:=ja m;omega,λv d k7 Iv H7 x7 M7 IO tv md=>⟨ma,λt ht=>?_⟩⟩;have r:=smu (o:=HO.tup [V.str "fun",V.ref F,v]) ht;have hF7:=(x7 _ _ FS hF6);exact q _ (.tuple [.str "fun",.tuple ((rgI f c).map .int),d]) k7 Iv _ ((x6.trans x7).same r) (M7.same r) ?A (.tup (SqT.of pF) (.cons (.str _) (.cons (.tup (SqT.of (r _ _ hF7)) (tD _)) (.cons (tv.same r) .nil)))) (CQ KJ md)
    · have en':n'=n:=by rw[Kz,if_neg e1,Nat.add_zero]
      subst en';have e0:rgI f 1=[f]:=by unfold rgI;simp
      rw[e0] at A6 hF6;have hA6:Ask K H6 Γ kd k2 (f+((1:Nat):Int)) ks kn m:=A0.go x6 M6 ?A (Nat.le_succ m);refine pJ (by simp[e1]) (qX _ _ (ab λGQ Ay=>?_));refine⟨_,U,_,U,_,U,_,U,_,_,U,U,Γ,kd,k2,_,ks,kn,n',by rw[vy];rfl,hA6,by have:=ja m;omega,λv d k7 Iv H7 x7 M7 IO tv md=>?_⟩;have hF7:=(x7 _ _ FS hF6);have hle:=md.le;refine Ay _ _ ?_;refine⟨_,U,_,U,F,_,0,_,U,U,SqT.of hF7,pI (j:=0) U,_,U,_,U,_,U,_,U,_,U,_,_,U,U,Γ,p,k7,_,_,_,n',by rw[vy];rfl,A6.go x7 M7 hle.1 ?M,by have:=ja m;omega,λv8 d8 k8 nx8 H8 x8 M8 hk8 tv8 md8=>⟨Bc,λt ht=>?_⟩⟩;have r:=smu (o:=HO.tup [V.str hd,V.int f,v,v8]) ht;exact q _ (.tuple [.str hd,.int f,d,d8]) k8 nx8 _ (((x6.trans x7).trans x8).same r) (M8.same r) ?A (.tup (SqT.of pF) (.cons (.str _) (.cons (.int _) (.cons ((tv.kp (M7.kp M8 x8)).same r) (.cons (tv8.same r) .nil))))) (CO e2 md md8)
   refine ?T
   rcases hhd with e | ⟨e1,e2⟩
   · refine pK (by simp[e]) ⟨_,U,M1.pick ?A ?G λr2 H2 IU x2 M2=>?_⟩;exact bT r2 H2 _ (.inl ⟨e,by omega⟩) (x1.trans x2) M2 ?A
   · exact pJ (by simp[e1]) (bT 1 H1 _ (.inr ⟨e1,e2,U⟩) x1 M1 ?A)
end
section
variable {K:Fg} {H H' H1:Hp} {n:Gam} {k nx k' nx':Int}
def MS.face (M:MS K H n k nx):∃ b:List V,H n.fa=some (.lst b)/\b.length=n.hs.length/\∀ (i:Nat) (h:Str) (c:Nat),n.hs[i]?=some (h,c)->∃ t:Addr,b[i]?=some (V.ref t)/\SqT K H t [V.str h,V.int ?R]:=by
 obtain⟨b,m,f⟩:=M.fv;refine⟨b,m,by rw[f.length,lMp],λi h c e=>?_⟩;obtain⟨x,j,t⟩:=f.at (by rw[gEM,e];rfl);obtain⟨a,p,rfl,g,d⟩:=BD.tup_of t;cases d with
 | cons o d =>
  cases d with
  | cons l d =>
   cases d;rw[o.str_of,l.int_of] at g;exact⟨a,j,g⟩
def qJ {c:List Int} (h:BDs K H xs (c.map .int)):xs=c.map V.int:=by
 induction c generalizing xs with
 | nil=>cases h;rfl
 | cons i r d=>cases h with
  | cons a b=>rw[a.int_of,d b];rfl
def MS.rcv (M:MS K H n k nx):SqT K H n.rc ((rsI n.rs).map V.int):=by
 obtain⟨a,d,e,c,b⟩:=M.rv.tup_of;cases e;have:dR n.rs=(rsI n.rs).map .int:=by unfold dR rsI;rw[List.map_map];rfl
 rw[this] at b;rw[qJ b] at c;exact c
end
def Ad (Γ:Gam) (i:Nat):Prop:=∃ h c,Γ.hs[i]?=some (h,c)/\h≠"open"
def nI (is:List Nat):List V:=is.map λi=>V.int ?J
section
variable {P:Program} {w:World} {K:Fg} {B:SOV} {base:Heap}
abbrev sWi:Stmt:=top 48
abbrev nWi:List Str:=["_law_state","_law_known","_law_funs","_law_deep","_law_faces","_law_callees","_law_way","_law_callee","_law_record","_law_field","_law_row"]
def Br:aM nWi psE (ad sWi):=fsM
def e0n (c:List Nat) (h:c≠[]):(!((rsI c).map V.int).isEmpty)=true:=by cases c with | nil=>exact absurd U h | cons a b=>rfl
def GK:(["_law_k","_law_faces"]:List Str).Nodup:=by left
def F0:(["_law_k","_law_state","_law_faces"]:List Str).Nodup:=by left
def BP (D:Def K B "_law_wide" sWi):Fn P w K B base "_law_wide" (l+1) psE (spB K 0):=by
 refine D.fn Br ?P (λ_ _ _ _ _ _ j f=>by obtain⟨a,b,c,d,rfl⟩:=qQ f;rfl) (λf m A e i H k Q E g h=>?_)
 · exact absurd U h.1
 · exact absurd U h.1
def Ef (D:Def K B "_law_wide" sWi) (T:Blt K B) (az:Fn P w K B base "_law_pick" 2 ["_law_state","_law_many_here"] (jo K)) (bH:Fn P w K B base "_law_many" (l+4) psM (tZ K (m+1))):Fn P w K B base "_law_wide" (l+5) psE (spB K (m+1)):=by
 refine D.fn Br ?P (λ_ _ _ _ _ _ us hl=>by obtain⟨a,b,c,d,rfl⟩:=qQ hl;rfl) (λf kb A outer s0 H vs Q E J h=>?_)
 · obtain⟨_,Γ,kd,k,nx,ks,kn,n,rfl,_⟩:=h;rfl
 · obtain⟨_,Γ,kd,k,nx,ks,kn,n,rfl,A0,hk,q⟩:=h;have nd:=Br.nd;have hu:=dN J;have IL:(A.deeper (PyProof.Rows.envOfC "_law_wide" (ad sWi) s0.heap.objs.size f kb)).units+64<cLine:=by have:=J.un;omega
   ext c
   have Ip:cst (m+1)-1=8*cst m+11:=rfl;rw[Ip] at hk q;refine⟨_,(pE (pN (i:=4) nd U (Or.inr U) (pM hu ?C pD ?H))
 (pE (iQ (i0:=5) (own:=["_law_k"]) (outs:=[(4,"_law_faces")]) (tc:=dA (tOp rNe (tOp (fN K) (tOp (oP K) (cw 1) (cw 0)) (tC (.int 0))) (tC (.str "open")))) U (aG.of (ad sWi) nWi) (bE U T.range (pA (bq T.len (pA (pv 4) pC)) pC)) (λ_ _ _ _=>⟨(ax (i:=0) GK U ?D),(bM (pP fz (aj ae (aj b8 ?E ?C ?H) pG ?H) pD (pQ _))),?C⟩) nd U U)
 (pE (aE (pP aZ (aj ae (aj b8 (pv 4) (pM hu ?C pD ?H) ?H) pG ?H) pD (pQ _)) (pH (iQ (i0:=5) (own:=["_law_k"]) (outs:=[(0,"_law_state"),(4,"_law_faces")]) (tc:=tOr (dA (tOp rEq (tOp (fN K) (tOp (oP K) (cw 2) (cw 0)) (tC (.int 0))) (tC (.str "deep")))) (dA (tOp (rI0 λi j=>.bl (decide (i<j))) (cw 0) (Aj (cw 1) (tC (.str "number")))))) U (aG.of (ad sWi) nWi) (eC (pv 5)) (λ_ _ _ _=>⟨(ax (i:=0) F0 U ?D),(bM (PW.pt (bF (pP aZ (aj ae (aj b8 (pv 2) ?C ?H) pG ?H) pD (pQ _)) (bJ (pP gN ?C (pM hu ?E pD ?H) (pQ _)))))),?C⟩) nd U U)) am)
 (pE (pN (i:=6) nd U ?D (aB az (J.mono ?A) U (pA ?C (pA pG pC))))
 (pE (aE (PW.pt (dw (pP aZ (pv 6) pG (pQ _)) (cX (pP (ir hu) (pv 5) (bb pC) (pQ _))))) (pE (pN (i:=7) nd U ?D (aj b8 (pv 5) (aB az (J.mono ?A) U (pA ?C (pA (bq T.len (pA (pv 5) pC)) pC))) ?H))
 (pH (ak (aN (pA pD (pA (pv 7) (pA (aB bH (J.mono ?A) U (pA ?C (pA ?E (pA (pv 2) (pA (pv 3) (pA (aj ae (aj b8 (pv 4) (pv 7) ?H) pG ?H) pC)))))) pC))))))) am)
 (pE (aE (PW.pt (dw (pP gN (pv 6) pG (pQ _)) (cX (pP (sq IL) (pM hu ?C pD ?H) (aN pC) (pQ _))))) (pE (pN (i:=8) nd U ?D (aB az (J.mono ?A) U (pA ?C (pA (bq T.len (pA (pM hu ?C pD ?H) pC)) pC))))
 (pE (aE (pP aZ (pv 6) pG (pQ _)) (pH (ak (aN (pA pD (pA (pv 8) (pA (aB bH (J.mono ?A) U (pA ?C (pA ?E (pA (pv 2) (pA (pv 3) (pA (aj ae (pM hu ?C pD ?H) (pv 8) ?H) pC)))))) pC)))))) am)
 (pE (pN (i:=9) nd U ?D (aB az (J.mono ?A) U (pA ?C (pA (aj ae (pM hu ?C pD ?H) (pv 8) ?H) pC))))
 (pH (ak (aT fb (aN (pA pD (pA (pv 8) (pA (pv 9) pC)))) (aB bH (J.mono ?A) U (pA ?C (pA ?E (pA (pv 2) (pA (pv 3) (pA pG pC)))))))))))) am)
 (pE (pN (i:=10) nd U ?D (aB bH (J.mono ?A) U (pA ?C (pA ?E (pA (pv 2) (pA (pv 3) (pA (aT bY pG (aB az (J.mono ?A) U (pA ?C (pA pG pC)))) pC)))))))
 (pH (ak (aN (pA pD (pA (aj ae (pv 10) pG ?H) (pA (cF eA (pv 10) (cC pG) dE) pC))))))))))))),?_⟩
   ext b;refine ab λsw jB=>?_;have M0:=A0.M;refine⟨_,U,Γ.s,_,U,M0.fcs,jB _ _ (ab λjP f9=>?_)⟩;obtain⟨xf,Kj,hfl,hfe⟩:=M0.face;have ho:=A0.o;have hhl:=ho.hl;obtain⟨⟨h0,c0⟩,hown⟩:∃ p,Γ.hs[Γ.own]?=some p:=⟨_,gEE ho.ho⟩;obtain⟨t0,ht01,ht02⟩:=hfe _ _ _ hown;rw[dU,bU];refine⟨_,U,Γ.fa,_,U,.inl (SqL.of Kj),_,U,by omega,by omega,λG hG=>?_⟩;have kG:=smu (o:=HO.lst []) hG;refine bj.by (bo (n:=(((xf.length:Nat):Int)).toNat)) (λj σ Hj=>aA H Hj/\(∃ x,Hj G=some (.lst (nI x))/\(∀ i∈x,Ad Γ i)/\x.length<=j)/\∃ y,σ=[y,some (.ref Γ.fa)]) ⟨kG,⟨[],pF,λi hi=>(by cases hi),Nat.le_refl _⟩,_,U⟩ (λ_ _ _ _ _=>trivial) ?_ ?_
   · rintro j u σ Hj Ix ⟨sj,⟨x,Id,JS,hil⟩,y,rfl⟩;obtain rfl:=hV Ix;have hj:j<xf.length:=by have:=(gES.mp Ix).1;rwa [bB,Int.toNat_natCast] at this
     obtain⟨⟨h,c⟩,JQ⟩:∃ p,Γ.hs[j]?=some p:=⟨_,gEE ?A⟩;obtain⟨t,Ie,IC⟩:=hfe _ _ _ JQ;rw[aL];refine⟨_,U,_,U,Γ.fa,xf,_,_,U,U,SqL.of (sj _ _ Kj),pI Ie,t,_,0,_,U,U,sj.seqT IC,pI (j:=0) U,U,_,U,?_⟩;by_cases e1:h="open"
     · exact pJ (by simp[e1]) ⟨sj,⟨x,Id,JS,by omega⟩,_,U⟩
     · refine pK (by simp[e1]) ⟨_,U,_,Id,by unfold nI;rw[lMp];omega,aK sj hG,⟨x++[j],by rw[pF];unfold nI;rw[List.map_append];rfl,λz I=>?_,by rw[lAp];show x.length+1<=_;omega⟩,_,U⟩
       rcases mAp.mp I with I | I
       · exact JS z I
       · rw[mSg.mp I];exact⟨h,c,JQ,e1⟩
   rintro σ H1 ⟨s1,⟨is1,Kv,his1,hil1⟩,y,rfl⟩;rw[bB,Int.toNat_natCast] at hil1;ext q;have M1:=M0.same s1;have IJ:∀ (H2:Hp) (G2:Addr) (x:List Nat),aA H H2->H2 G2=some (.lst (nI x))->(∀ i∈x,Ad Γ i/\ji Γ ?J)->x.length<=10->jx [some (.ref Γ.s),some (.ref kd),some (.int ((n:Nat):Int)),some (.int ((m+1:Nat):Int)),some (.ref Γ.fa),some (.ref G2),none,none,none,none,none] H2:=by
    intro H2 G2 x s2 Jl JS hil;ext h;have M2:=M0.same s2;have nil:(nI x).length=x.length:=lMp ..;have GS:G2≠Γ.s:=λz=>by obtain⟨kv,e⟩:=M2.dk;rw[z,e] at Jl;cases Jl
    refine⟨_,U,M2.pick ?A ?G λr H3 Kd x3' M3=>gH _ _ (ab λoX iD=>?_)⟩;have x3:=(Sm.of (s:=Γ.s) s2).trans x3';have hG3:=x3' _ _ GS Jl;have F:∀ H4,aA H3 H4->oX [some (.ref Γ.s),some (.ref kd),some (.int ((n:Nat):Int)),some (.int ((m+1:Nat):Int)),some (.ref Γ.fa),some (.ref G2),some (.int ((r:Nat):Int)),none,none,none,none] H4:=by
     intro H4 s4;refine iD _ _ (ab λsv jj=>?_);have M4:=M3.same s4;have x4:=x3.same s4;have C:∀ H5,aA H4 H5->sv [some (.ref Γ.s),some (.ref kd),some (.int ((n:Nat):Int)),some (.int ((m+1:Nat):Int)),some (.ref Γ.fa),some (.ref G2),some (.int ((r:Nat):Int)),none,none,none,none] H5:=by
      intro H5 s5;refine jj _ _ (ab λyn mD=>?_);have M5:=M4.same s5;have x5:=x4.same s5;refine⟨_,U,_,U,_,U,_,U,_,U,M5.pick ?A ?G λr6 H6 hr6 x6' M6=>⟨_,_,U,U,?_⟩⟩;have x6:=x5.trans x6';have hmul:(1+r6)*cst m<=3*cst m:=Nat.mul_le_mul_right _ ?A;have hcp:=ja m;refine⟨Γ,kd,k+1+1,nx,ks,kn,n,1+r6,m,U,U,A0.go x6 M6 (Int.le_refl _) ?M,by omega,by omega,λv ds k7 Iv H7 x7 M7 IO tv hl ms=>mD _ _ ?_⟩;obtain⟨a7,xs7,rfl,ha7,hx7⟩:=tv.tup_of;have hxl:=hx7.length;obtain⟨d,ds,rfl⟩:=List.exists_cons_of_length_pos (show 0<ds.length by omega);obtain⟨y,ys,rfl,ty,tys⟩:∃ y ys,xs7=y::ys/\BD K H7 y d/\BDs K H7 ys ds:=by
       cases hx7 with
       | cons a b=>exact⟨_,_,U,a,b⟩
      refine⟨_,U,a7,_,0,_,U,U,ha7,pI (j:=0) U,_,U,?_⟩;rw[dD];refine⟨1,U,?_⟩;refine⟨a7,_,U,ha7,λz=>(by have:=congrArg List.length z;rw[zU] at this;simp only[List.length_cons] at this;omega),λps Jj=>⟨ma,λt ht=>?_⟩⟩;rw[zU] at ht ⊢;have k8:=smu (o:=HO.tup ys) Jj;have k9:=smu (o:=HO.tup [V.str "apply",y,V.ref ps]) ht;have k89:=k8.trans k9;rw[List.length_cons] at hl;exact q _ (.tuple [.str "apply",d,.tuple ds]) k7 Iv _ ((x6.trans x7).same k89) (M7.same k89) ?A (.tup (SqT.of pF) (.cons (.str _) (.cons (ty.same k89) (.cons (.tup (SqT.of (k9 _ _ pF)) (tys.same k89)) .nil)))) (yu ms ?A)
     refine⟨_,U,_,_,U,U,_,U,?_⟩;by_cases e3:((r:Nat):Int)<3
     · refine pK (by simpa using e3) ⟨_,U,Γ.s,_,U,M4.rcs,jl,λe he=>?_⟩;have ke:=smu (o:=HO.tup []) he;have hrc4:=M4.rcv;refine⟨Γ.rc,e,_,U,U,ke.seqT hrc4,SqT.of pF,_,U,?_⟩;generalize upd H4 e (.tup [])=H5 at ke ⊢;have Jz:((rsI Γ.rs).map V.int).length=Γ.rs.length:=by unfold rsI;rw[lMp,lMp]
       by_cases e0:Γ.rs=[]
       · exact pJ (by rw[e0];exact Bool.false_ne_true) (C H5 ke)
       have hpos:0<Γ.rs.length:=List.length_pos_iff.mpr e0;refine pK (by rw[e0n Γ.rs e0]) (ab λHE Iy=>?_);have M5:=M4.same ke;have x5:=x4.same ke;refine⟨_,U,_,U,Γ.s,_,U,M5.rcs,Γ.rc,_,U,.inr M5.rcv,M5.pick ?A (by rw[Jz];omega) λr6 H6 hr6 x6' M6=>Iy _ _ (ab λHL Ik=>?_)⟩;rw[Jz] at hr6;have x6:=x5.trans x6';obtain⟨c,hc⟩:∃ c,Γ.rs[r6]?=some c:=⟨_,gEE ?A⟩;obtain⟨hc1,KJ⟩:=ho.rr c (mGE hc);have hat:((rsI Γ.rs).map V.int)[r6]?=some (V.int ?R):=by unfold rsI;rw[gEM,gEM,hc];rfl
       refine ?T;by_cases e1:r=1
       · have hmul:c*cst m<=4*cst m:=Nat.mul_le_mul_right _ KJ;refine pK (by simp[e1]) ⟨_,U,_,U,_,U,_,U,_,U,_,U,Γ.s,_,U,M6.rcs,_,U,Γ.rc,_,_,_,U,U,M6.rcv,pI hat,?_⟩;refine⟨Γ,kd,k+1+1,nx,ks,kn,n,c,m,U,U,A0.go x6 M6 (Int.le_refl _) ?M,by omega,by omega,λv ds k7 Iv H7 x7 M7 IO tv hl ms=>⟨ma,λt' JB=>?_⟩⟩;have kt:=smu (o:=HO.tup [V.str "new",V.int ((r6:Nat):Int),v]) JB;exact q _ (.tuple [.str "new",.int ((r6:Nat):Int),.tuple ds]) k7 Iv _ ((x6.trans x7).same kt) (M7.same kt) ?A (.tup (SqT.of pF) (.cons (.str _) (.cons (.int _) (.cons (tv.same kt) .nil)))) (CN (by rw[hl];exact hc) ms ?A)
       · refine pJ ?Q (Ik _ _ ?_);refine⟨_,U,_,U,Γ.s,_,U,M6.rcs,_,U,Γ.rc,_,_,_,U,U,M6.rcv,pI hat,M6.pick ?A ?A λr7 H7 hr7 x7 M7=>?_⟩;refine⟨_,U,_,U,ma,λt1 Ie=>?_⟩;have kt1:=smu (o:=HO.tup [V.str "get",V.int ((r6:Nat):Int),V.int ((r7:Nat):Int)]) Ie;have tg:BD K (upd H7 t1 (.tup [V.str "get",V.int ((r6:Nat):Int),V.int ((r7:Nat):Int)])) (.ref t1) (.tuple [.str "get",.int ((r6:Nat):Int),.int ((r7:Nat):Int)]):=.tup (SqT.of pF) (.cons (.str _) (.cons (.int _) (.cons (.int _) .nil)));have M8:=M7.same kt1;have x8:=(x6.trans x7).same kt1;generalize upd H7 t1 (.tup [V.str "get",V.int ((r6:Nat):Int),V.int ((r7:Nat):Int)])=H8 at tg M8 x8 ⊢;refine⟨_,U,_,U,_,U,_,U,Γ,kd,k+1+1+1,nx,ks,kn,n,1,m,U,U,A0.go x8 M8 (Int.le_refl _) ?M,by omega,by omega,λv ds k9 nx9 H9 x9 M9 hk9 tv hl ms=>?_⟩;obtain⟨d,rfl⟩:=dM hl;have tg9:=tg.kp (M8.kp M9 x9);obtain⟨a9,xs9,rfl,ha9,hx9⟩:=tv.tup_of;refine eK tg9 (.tup ha9 hx9) ?B λp JY s10 tp=>?_;exact q _ (.tuple [.str "get",.int ((r6:Nat):Int),.int ((r7:Nat):Int),d]) k9 nx9 _ ((x8.trans x9).same s10) (M9.same s10) ?A tp (CP hc ?A ms)
     · exact pJ (by simpa using e3) (aP (C H4 (aA.refl _)))
    refine ?T;by_cases e4:r=0
    · refine pK (by simp[e4]) ⟨_,U,jl,λN hN=>⟨G2,N,nI x,U,U,SqL.of ((smu hN) _ _ hG3),SqL.of pF,_,U,?_⟩⟩;have kN:=smu (o:=HO.lst []) hN;generalize upd H3 N (.lst [])=H4 at kN ⊢;cases x with
      | nil=>exact aP (F H4 kN)
      | cons i0 is0 =>
      refine aJ ?_;have M4:=M3.same kN;have hG4:=kN _ _ hG3;refine⟨_,U,_,U,_,U,G2,_,U,.inl (SqL.of hG4),M4.pick ?A (by rw[nil];exact Int.natCast_pos.mpr (Nat.succ_pos _)) λr5 H5 J3 HS M5=>?_⟩;have hG5:=HS _ _ GS hG4;rw[nil] at J3;obtain⟨i,hi⟩:∃ i,(i0::is0)[r5]?=some i:=⟨_,gEE ?A⟩;obtain⟨⟨h,c,JQ,J5⟩,hok⟩:=JS i (mGE hi);refine⟨G2,_,_,V.int ?J,U,U,SqL.of hG5,pI (by unfold nI;rw[gEM,hi];rfl),?_⟩;obtain⟨xf5,hfa5,hfl5,hfe5⟩:=M5.face;obtain⟨t,Ie,IC⟩:=hfe5 _ _ _ JQ;have KJ:c<=4:=ho.hc (h,c) (mGE JQ);have hmul:c*cst m<=4*cst m:=Nat.mul_le_mul_right _ KJ;have x5:=(x3.same kN).trans HS;refine⟨_,U,_,U,_,U,_,U,_,U,_,U,_,U,Γ.fa,xf5,_,_,U,U,SqL.of hfa5,pI Ie,t,_,1,_,U,U,IC,pI (j:=1) U,?_⟩;refine⟨Γ,kd,k+1+1,nx,ks,kn,n,c,m,U,U,A0.go x5 M5 (Int.le_refl _) ?M,by omega,by omega,λv ds k7 Iv H7 x7 M7 IO tv hl ms=>⟨ma,λt' JB=>?_⟩⟩;have kt:=smu (o:=HO.tup [V.str "call",V.int ?J,v]) JB;exact q _ (.tuple [.str "call",.int ?J,.tuple ds]) k7 Iv _ ((x5.trans x7).same kt) (M7.same kt) ?A (.tup (SqT.of pF) (.cons (.str _) (.cons (.int _) (.cons (tv.same kt) .nil)))) (Bf JQ J5 hl hok ms ?A)
    · exact pJ ?Q (aP (F H3 (aA.refl _)))
   refine⟨_,U,_,U,Γ.s,_,U,M1.num,Γ.fa,xf,_,_,U,U,SqL.of (s1 _ _ Kj),pI ht01,t0,_,0,_,U,U,s1.seqT ht02,pI (j:=0) U,U,_,U,?_⟩;by_cases e0:h0="function"
   · refine pK (by simp[e0]) ?_;rw[dU,bU];refine⟨_,U,G,U,⟨_,SqL.of Kv⟩,λG2 Jl=>?_⟩;have kG2:=smu (o:=HO.lst []) Jl;refine bj.by (bR (xs:=nI is1)) (λj σ Hj=>aA H1 Hj/\(∃ x,Hj G2=some (.lst (nI x))/\(∀ i∈x,Ad Γ i/\ji Γ ?J)/\x.length<=j)/\∃ y,σ=[y,some (.ref Γ.s),some (.ref Γ.fa)]) ⟨kG2,⟨[],pF,λi hi=>(by cases hi),Nat.le_refl _⟩,_,U⟩ (λj σ Hj _ h=>SqL.of (h.1 _ _ Kv)) ?_ ?_
     · rintro j u σ Hj Ix ⟨sj,⟨x,Id,JS,hil⟩,y,rfl⟩;unfold nI at Ix;rw[gEM] at Ix;obtain⟨i,hi,rfl⟩:=oMS.mp Ix;have hj:=(gES.mp hi).1;obtain⟨h,c,JQ,J5⟩:=his1 i (mGE hi);obtain⟨t,Ie,IC⟩:=hfe _ _ _ JQ;have s0j:=s1.trans sj;have yes:ji Γ ?J->aA H1 (upd Hj G2 (.lst (nI x++[V.int ?J])))/\(∃ is',(upd Hj G2 (.lst (nI x++[V.int ?J]))) G2=some (.lst (nI is'))/\(∀ i∈is',Ad Γ i/\ji Γ ?J)/\is'.length<=j+1)/\∃ y',[y,some (V.ref Γ.s),some (V.ref Γ.fa)].set 0 (some (V.int ?J))=[y',some (.ref Γ.s),some (.ref Γ.fa)]:=λok=>⟨aK sj Jl,⟨x++[i],by rw[pF];unfold nI;rw[List.map_append];rfl,λz I=>by
           rcases mAp.mp I with I | I
           · exact JS z I
           · rw[mSg.mp I];exact⟨⟨h,c,JQ,J5⟩,ok⟩,by rw[lAp];show x.length+1<=_;omega⟩,_,U⟩
       have hlen:(nI x).length<sizeLine:=by unfold nI;rw[lMp];omega
       rw[aL];refine⟨_,U,_,U,Γ.fa,xf,_,_,U,U,SqL.of (s0j _ _ Kj),pI Ie,t,_,0,_,U,U,s0j.seqT IC,pI (j:=0) U,U,_,U,?_⟩;by_cases e1:h="deep"
       · refine pK (by simp[e1]) (aJ ⟨_,U,_,Id,hlen,yes λ_ j' ej ef=>?_⟩);have:i=j':=by omega
         subst this;rw[JQ,e1] at ef;exact absurd (show ("deep":Str)="function" from Option.some.inj ef) (by left)
       · refine pJ (by simp[e1]) ⟨_,U,_,U,Γ.s,_,U,(M0.same s0j).num,_,_,U,U,_,U,?_⟩;by_cases e2:i<Γ.own
         · refine pK (by simpa using e2) ⟨_,U,_,Id,hlen,yes λ_ j' ej ef=>?_⟩;omega
         · exact pJ (by simpa using e2) ⟨sj,⟨x,Id,JS,by omega⟩,_,U⟩
     · rintro σ H2 ⟨s2,⟨is2,hG2',his2,hil2⟩,y,rfl⟩;unfold nI at hil2;rw[lMp] at hil2;exact IJ H2 G2 is2 (s1.trans s2) hG2' his2 ?A
   · exact pJ (by simp[e0]) (IJ H1 G is1 s1 Kv (λi hi=>⟨his1 i hi,λe=>absurd (by rw[hown] at e;exact Option.some.inj e) e0⟩) ?A)
end
def KnV.at {K:Fg} (h:KnV K H kd ks):∃ c:List V,H kd=some (.lst c)/\c.length=ks.length/\∀ (j:Nat) (p:Int×Bool×Nat),ks[j]?=some p->∃ t:Addr,c[j]?=some (V.ref t)/\SqT K H t [V.int p.1,V.bl p.2.1,V.int ((p.2.2:Nat):Int)]/\BD K H (.ref t) (dK p):=by
 obtain⟨c,k,d⟩:=h;refine⟨c,k,by rw[d.length,lMp],λj p e=>?_⟩;obtain⟨x,g,t⟩:=d.at (by rw[gEM,e];rfl);obtain⟨a,o,rfl,f,b⟩:=BD.tup_of t;refine⟨a,g,?_,t⟩;cases b with
 | cons m b =>
 cases b with
 | cons i b =>
 cases b with
 | cons l b =>
 cases b;rw[m.int_of,l.int_of] at f;cases i;exact f
def KnV.same {K:Fg} (h:KnV K H kd ks) (s:aA H H'):KnV K H' kd ks:=by
 obtain⟨c,b,a⟩:=h;exact⟨c,s _ _ b,a.same s⟩
def je (K:Fg) (H1:Hp) (G:Addr) (ks:List (Int×Bool×Nat)) (p:Int×Bool×Nat->Bool) (j:Nat) (Hj:Hp):Prop:=aA H1 Hj/\∃ ys,Hj G=some (.lst ys)/\BDs K Hj ys (((ks.take j).filter p).map dK)/\ys.length<=j
section
variable {K:Fg} {l m:Hp} {G:Addr} {ks:List (Int×Bool×Nat)} {p:Int×Bool×Nat->Bool} {j:Nat} {x:Int×Bool×Nat}
def je.start (a:l G=none):je K l G ks p 0 (upd l G (.lst [])):=⟨smu a,[],pF,.nil,Nat.le_refl _⟩
def je.yes (h:je K l G ks p j m) (k:l G=none) (i:ks[j]?=some x) (e:p x=true) (f:BD K m (.ref t) (dK x)):∃ a,m G=some (.lst a)/\a.length<=j/\je K l G ks p (j+1) (upd m G (.lst (a++[.ref t]))):=by
 obtain⟨s,a,c,d,g⟩:=h;refine⟨a,c,g,aK s k,_,pF,?_,by rw[lAp];show a.length+1<=_;omega⟩;rw[tAO,i,Option.toList_some,List.filter_append,List.map_append];refine BDs.kp (cK (.inr ⟨_,c⟩)) (d.app ?_);simp only[List.filter_cons,e,if_true,List.filter_nil];exact .cons f .nil
def je.no (h:je K l G ks p j m) (d:ks[j]?=some x) (e:p x=false):je K l G ks p (j+1) m:=by
 obtain⟨s,c,b,a,f⟩:=h;refine⟨s,c,b,?_,by omega⟩;rw[tAO,d,Option.toList_some,List.filter_append];simp only[List.filter_cons,e,List.filter_nil]
 simpa using a
def je.fin (h:je K l G ks p ks.length m):KnV K m G (ks.filter p):=by
 obtain⟨s,b,c,a,d⟩:=h;rw[List.take_length] at a;exact⟨b,c,a⟩
end
def vK (n:Nat) (p:Int×Bool×Nat):Bool:=!p.2.1||decide (p.2.2=n)
section
variable {P:Program} {w:World} {K:Fg} {x:SOV} {base:Heap}
abbrev sE:Stmt:=top 46
abbrev nE:List Str:=["_law_state","_law_known","_law_funs","_law_deep","_law_way","_law_seen","_law_some","_law_word","_law_many_here"]
def scE:aM nE psE (ad sE):=fsM
def GH:(["_law_one","_law_funs"]:List Str).Nodup:=by left
def mw:List Int:=[0,1,-1,32767,-32768]
def wF:List Str:=["a","ab","thing"]
def wO:List Str:=["add","at","same","div"]
def wU:List Str:=["not","size"]
def xD (T:Blt K x) (az:Fn P w K x base "_law_pick" 2 ["_law_state","_law_many_here"] (jo K)) (bH:Fn P w K x base "_law_many" (l+1) psM (tZ K m)) (gC:Fn P w K x base "_law_binder" (l+1) psE (spB K m)) (iH:Fn P w K x base "_law_wide" (l+2) psE (spB K m))
 (f:Addr) (kb:Value) (A:Around) (outer:List Env) (s0:Shared) (H:Hp) (vs:List V) (Q:VK) (E:XK) (hr:fH (l+2) (A.deeper (PyProof.Rows.envOfC "_law_e" (ad sE) s0.heap.objs.size f kb))) (h:spE K m vs H Q E):
 ∃ t,PSs (iF CX0 P w K x base nE "_law_e" (ad sE) f kb A outer s0 H E).nox (bW sE) t/\t {nx:=λ_ H'=>Q .non H',rt:=Q} (L2.start nE vs) H:=by
 · obtain⟨Γ,kd,k,nx,ks,kn,n,rfl,A0,hk,q⟩:=h;have nd:=scE.nd;have hu:=dN hr;ext d
   refine⟨_,(pE (pN (i:=4) nd U ?D ?Y)
 (pE (aE (pP aZ (pv 3) pG (pQ _)) (pH (pN (i:=4) nd U ?D (aT gu (pv 4) pG))) am)
 (pE (iQ (i0:=5) (own:=["_law_one"]) (outs:=[(2,"_law_funs")]) (tc:=tOr (yD (dA (tOp (fN K) (cw 0) (tC (.int 1))))) (dA (tOp rEq (tOp (fN K) (cw 0) (tC (.int 2))) (cw 1)))) U (aG.of (ad sE) nE) (eC ?E) (λ_ _ _ _=>⟨(ax (i:=0) GH U ?D),(bM (PW.pt (bF (aU (aQ ?I)) (bJ (pP aZ ?I ?E (pQ _)))))),?C⟩) nd U U)
 (pE (iQ (i0:=6) (own:=["_law_one"]) (outs:=[]) (tc:=dA (tOp (fN K) (cw 0) (tC (.int 1)))) U (aG.of (ad sE) nE) (eC (pv 5)) (λ_ _ _ _=>⟨(ax (i:=0) (nd1 _) U ?D),(bM (aQ ?I)),?C⟩) nd U U)
 (pE (aE (PW.pt (dw (pP aZ (pv 4) pG (pQ _)) (cX (pP (ir hu) (pv 5) (bb pC) (pQ _))))) (pH (ak (aN (pA pD (pA (aj ae (aj b8 (pv 5) (aB az (hr.mono ?A) U (pA ?C (pA (bq T.len (pA (pv 5) pC)) pC))) ?H) pG ?H) pC))))) am)
 (pE (aE (pP gN (pv 4) pG (pQ _)) (@pH _ _ _ (@ak _ _ _ _ (@aN _ _ _ _ _ (@pA _ _ _ _ _ pD (@pA _ _ _ _ _ (@aj _ _ _ _ _ _ _ b8 (@bb _ _ _ _ (@pA _ _ _ _ _ pG (@pA _ _ _ _ _ pG (@pA _ _ _ _ _ (@iT _ _ _ _ _ _ g9 pG) (@pA _ _ _ _ _ pG (@pA _ _ _ _ _ (@iT _ _ _ _ _ _ g9 pG) pC ?K) ?K) ?K) ?K) ?K)) ?Y ?H) pC ?K) ?K)))) am)
 (pE (aE (pP gN (pv 4) pG (pQ _)) (pH (ak (aB gC (hr.mono ?A) U (pA ?C (pA ?E (pA (pv 2) (pA (pv 3) pC))))))) am)
 (pE (aE (PW.pt (dw (pP aZ (pv 4) pG (pQ _)) (cX (pP (ir hu) (pv 6) (bb pC) (pQ _))))) (pH (ak (aT fb (aN (pA pD (pA (aj ae (aj b8 (pv 6) (aB az (hr.mono ?A) U (pA ?C (pA (bq T.len (pA (pv 6) pC)) pC))) ?H) pG ?H) pC))) (aB bH (hr.mono ?A) U (pA ?C (pA ?E (pA (pv 2) (pA (pv 3) (pA pG pC))))))))) am)
 (pE (aE (pP gN (pv 4) pG (pQ _)) (pH (ak (aB iH (hr.mono ?A) U (pA ?C (pA ?E (pA (pv 2) (pA (pv 3) pC))))))) am)
 (pE (aE (pP aZ (pv 4) pG (pQ _)) (@pH _ _ _ (@ak _ _ _ _ (@aN _ _ _ _ _ (@pA _ _ _ _ _ pD (@pA _ _ _ _ _ (@aj _ _ _ _ _ _ _ b8 (@bb _ _ _ _ (@pA _ _ _ _ _ pD (@pA _ _ _ _ _ pD (@pA _ _ _ _ _ pD pC ?K) ?K) ?K)) ?Y ?H) pC ?K) ?K)))) am)
 (pE (aE (pP aZ (pv 4) pG (pQ _)) (pE (@pN _ _ 7 _ _ _ _ nd U ?D (@aj _ _ _ _ _ _ _ b8 (@bb _ _ _ _ (@pA _ _ _ _ _ pD (@pA _ _ _ _ _ pD (@pA _ _ _ _ _ pD (@pA _ _ _ _ _ pD pC ?K) ?K) ?K) ?K)) ?Y ?H) ?K (by exact Or.inl U))
 (pH (ak (aN (pA pD (pA (pv 7) (pA (aB bH (hr.mono ?A) U (pA ?C (pA ?E (pA (pv 2) (pA (pv 3) (pA pG pC)))))) pC))))))) am)
 (pE (aE (pP aZ (pv 4) pG (pQ _)) (pH (ak (aN (pA pD (pA (aj b8 (bb (pA pD (pA pD pC))) ?Y ?H) (pA (aB bH (hr.mono ?A) U (pA ?C (pA ?E (pA (pv 2) (pA (pv 3) (pA pG pC)))))) pC)))))) am)
 (pE (aE (pP aZ (pv 4) pG (pQ _)) (pH (ak (aN (pA pD (pA pD (pA (aB bH (hr.mono ?A) U (pA ?C (pA ?E (pA (pv 2) (pA (pv 3) (pA (aj b8 (bb (pA pG (pA pG (pA pG pC)))) ?Y ?H) pC)))))) pC)))))) am)
 (pE (aE (pP aZ (pv 4) pG (pQ _)) (pH (ak (aN (pA pD (pA (aB bH (hr.mono ?A) U (pA ?C (pA ?E (pA (pv 2) (pA (pv 3) (pA (aT bY pG ?Y) pC)))))) pC))))) am)
 (pE (gL (@aj _ _ _ _ _ _ _ b8 (@bb _ _ _ _ (@pA _ _ _ _ _ (@aN _ _ _ _ _ (@pA _ _ _ _ _ pD (@pA _ _ _ _ _ pG pC ?K) ?K)) (@pA _ _ _ _ _ (@aN _ _ _ _ _ (@pA _ _ _ _ _ pD (@pA _ _ _ _ _ pG pC ?K) ?K)) (@pA _ _ _ _ _ (@aN _ _ _ _ _ (@pA _ _ _ _ _ pD (@pA _ _ _ _ _ pG pC ?K) ?K)) pC ?K) ?K) ?K)) ?Y ?H) (cv U (aF (ax (i:=7) nd U ?D) (aF (ax (i:=8) nd U ?D) bI))))
 (pH (ak (aT fb (aN (pA (pv 7) pC)) (aB bH (hr.mono ?A) U (pA ?C (pA ?E (pA (pv 2) (pA (pv 3) (pA (pv 8) pC)))))))))))))))))))))))),?_⟩
   ext b;refine ab λsw jB=>?_;refine⟨_,U,A0.M.pick ?A ?G λr H1 JF x1 M1=>jB _ _ (ab λjP f9=>?_)⟩;have bT:∀ wy:Nat,wy<16->(m=0->wy<3)->jP [some (.ref Γ.s),some (.ref kd),some (.int ((n:Nat):Int)),some (.int ((m:Nat):Int)),some (.int ((wy:Nat):Int)),none,none,none,none] H1:=by
    intro wy hw16 JH;ext q;have A1:Ask K H1 Γ kd (k+1) nx ks kn m:=A0.go x1 M1 (Int.le_refl _) ?M;obtain⟨xs,hkd,hxl,KH⟩:=A1.v.at;have hll:=A0.l;rw[dU,bU];refine⟨_,U,kd,U,⟨_,SqL.of hkd⟩,λG1 Kv=>?_⟩;refine bj.by (bR (xs:=xs)) (λj σ Hj=>je K H1 G1 ks (vK n) j Hj/\∃ y,σ=[y,some (.int ((n:Nat):Int))]) ⟨je.start Kv,_,U⟩ (λj σ Hj _ h=>SqL.of (h.1.1 _ _ hkd)) ?_ ?_
    · rintro j u σ Hj Ix ⟨hI,y,rfl⟩;have hj:=(gES.mp Ix).1;obtain⟨⟨i,v,a⟩,hp⟩:∃ p,ks[j]?=some p:=⟨_,gEE ?A⟩;obtain⟨t,Ie,IC,J4⟩:=KH j _ hp;rw[Ix] at Ie;cases Ie;have sj:=hI.1;rw[aL];refine⟨_,U,t,_,1,_,U,U,sj.seqT IC,pI (j:=1) U,_,U,?_⟩;cases v with
      | false =>
       obtain⟨ys,hy,hl,hI'⟩:=hI.yes Kv hp rfl (J4.same sj);exact aJ (aJ ⟨_,U,ys,hy,by omega,hI',_,U⟩)
      | true =>
       refine aP ⟨_,U,t,_,2,_,U,U,sj.seqT IC,pI (j:=2) U,_,U,U,_,U,?_⟩;by_cases ea:a=n
       · obtain⟨ys,hy,hl,hI'⟩:=hI.yes Kv hp (by show (!true||decide (a=n))=true;rw[decide_eq_true ea];rfl) (J4.same sj);exact pK (by simp[ea]) ⟨_,U,ys,hy,by omega,hI',_,U⟩
       · exact pJ ?Q ⟨hI.no hp (by show (!true||decide (a=n))=false;rw[decide_eq_false ea];rfl),_,U⟩
    rintro σ H2 ⟨hI2,y,rfl⟩;rw[hxl] at hI2;have s2:=hI2.1;have V1:=hI2.fin;obtain⟨JP,hks1⟩:∃ JP,JP=ks.filter (vK n):=⟨_,rfl⟩;rw[<- hks1] at V1;have Jq:JP.length<=ks.length:=by rw[hks1];exact List.length_filter_le ..
    have hm1:∀ p∈JP,kn p.1=some p.2/\(p.2.1=false\/p.2.2=n):=λp hp=>by
     rw[hks1,List.mem_filter] at hp;refine⟨(A0.s p hp.1).1,?_⟩;have:=hp.2;unfold vK at this;rw[Bool.or_eq_true,Bool.not_eq_true'] at this;exact this.imp id of_decide_eq_true
    clear hI2;ext h;obtain⟨Kb,K3,Jc,hxe1⟩:=V1.at;rw[dU,bU];refine⟨_,U,G1,U,⟨_,SqL.of K3⟩,λG2 Jl=>?_⟩;refine bj.by (bR (xs:=Kb)) (λj σ Hj=>je K H2 G2 JP (λp=>p.2.1) j Hj/\∃ y,σ=[y]) ⟨je.start Jl,_,U⟩ (λj σ Hj _ h=>SqL.of (h.1.1 _ _ K3)) ?_ ?_
    · rintro j u σ Hj Ix ⟨hI,y,rfl⟩;have hj:=(gES.mp Ix).1;obtain⟨⟨i,v,a⟩,hp⟩:∃ p,JP[j]?=some p:=⟨_,gEE ?A⟩;obtain⟨t,Ie,IC,J4⟩:=hxe1 j _ hp;rw[Ix] at Ie;cases Ie;have sj:=hI.1;rw[aL];refine⟨_,U,t,_,1,_,U,U,sj.seqT IC,pI (j:=1) U,_,U,?_⟩;cases v with
      | true =>
       obtain⟨ys,hy,hl,hI'⟩:=hI.yes Jl hp rfl (J4.same sj);exact aJ ⟨_,U,ys,hy,by omega,hI',_,U⟩
      | false=>exact aP ⟨hI.no hp U,_,U⟩
    rintro σ H3 ⟨hI3,y,rfl⟩;rw[Jc] at hI3;have s3':=hI3.1;have V2:=hI3.fin;obtain⟨HW,hks2⟩:∃ HW,HW=JP.filter (λp=>p.2.1):=⟨_,rfl⟩;rw[<- hks2] at V2;have hl2:HW.length<=ks.length:=by rw[hks2];exact Nat.le_trans (List.length_filter_le ..) Jq
    have Jy:∀ p∈HW,kn p.1=some (true,n):=λp hp=>by
     rw[hks2,List.mem_filter] at hp;obtain⟨h1,h2⟩:=hm1 p hp.1;have h3:=hp.2;rw[h1];obtain⟨i,v,a⟩:=p;simp only at h2 h3 ⊢;subst h3
     rcases h2 with h2 | h2
     · cases h2
     · rw[h2]
    replace V1:=V1.same s3';have s3:=s2.trans s3';have M3:=M1.same s3;have x3:=x1.same s3;clear hI3 K3 Jc hxe1 Kb hks1 hks2 s3' s2;obtain⟨Kb,K3,Jc,hxe1⟩:=V1.at;obtain⟨xs2,hGy,hyl2,hye2⟩:=V2.at;have G1S:G1≠Γ.s:=λz=>by obtain⟨kv,e⟩:=M3.dk;rw[z,e] at K3;cases K3
    have G2S:G2≠Γ.s:=λz=>by obtain⟨kv,e⟩:=M3.dk;rw[z,e] at hGy;cases hGy
    refine gH _ _ (ab λoX iD=>?_);have hcp:=ja m;have numb:∀ H4,aA H3 H4->wy<3->oX [some (.ref Γ.s),some (.ref kd),some (.int ((n:Nat):Int)),some (.int ((m:Nat):Int)),some (.int ((wy:Nat):Int)),some (.ref G1),some (.ref G2),none,none] H4:=by
     intro H4 s4 hlt;refine iD _ _ ?_;refine⟨_,U,_,_,U,U,_,U,pK ?Q ?_⟩;refine⟨1,U,32768,U,Hs,λW hW=>?_⟩;have kW:=smu (o:=HO.lst (mw.map V.int)) hW;have MW:=(M3.same s4).same kW;have WS:W≠Γ.s:=λz=>by obtain⟨kv,e⟩:=(M3.same s4).dk;rw[z,e] at hW;cases hW
     refine⟨_,U,MW.pick ?A ?G λr5 H5 J3 HS M5=>?_⟩;have hj:r5<mw.length:=by show r5<5;omega
     refine⟨W,_,_,V.int mw[r5],U,U,SqL.of (HS _ _ WS pF),pI (by simp[hj]),jk,λt ht=>?_⟩;have kt:=smu (o:=HO.tup [V.str "number",V.int mw[r5]]) ht;have hn:∀ i∈mw,-32768<=i/\i<=32767:=by decide
     obtain⟨h1,h2⟩:=hn _ (List.getElem_mem hj);exact q _ (.tuple [.str "number",.int mw[r5]]) (k+1+1) nx _ ((((x3.same s4).same kW).trans HS).same kt) (M5.same kt) ?A (.tup (SqT.of pF) (.cons (.str _) (.cons (.int _) .nil))) (v9 h1 h2)
    by_cases hlt:wy<3
    · refine ?T;by_cases e4:wy=1
      · refine pK (by simp[e4]) ⟨_,U,jl,λN hN=>?_⟩;have kN:=smu (o:=HO.lst []) hN;refine⟨G1,N,Kb,U,U,SqL.of (kN _ _ K3),SqL.of pF,_,U,?_⟩;generalize upd H3 N (.lst [])=H4 at kN ⊢;by_cases e5:JP=[]
        · have:Kb=[]:=List.eq_nil_of_length_eq_zero (by rw[Jc,e5];rfl);rw[this];exact aP (numb H4 kN hlt)
        have hpos:0<JP.length:=List.length_pos_iff.mpr e5;refine pK (by cases Kb with | nil=>simp at Jc;omega | cons _ _=>rfl) ?_;refine⟨_,U,_,U,_,U,G1,_,U,.inl (SqL.of (kN _ _ K3)),(M3.same kN).pick ?A (by rw[Jc];omega) λr5 H5 J3 HS M5=>?_⟩;rw[Jc] at J3;obtain⟨⟨i,v,a⟩,hp⟩:∃ p,JP[r5]?=some p:=⟨_,gEE ?A⟩;obtain⟨t,Ie,IC,J4⟩:=hxe1 r5 _ hp;obtain⟨hk1,Ig⟩:=hm1 _ (mGE hp);refine⟨G1,_,_,V.ref t,U,U,SqL.of (HS _ _ G1S (kN _ _ K3)),pI Ie,t,_,0,_,U,U,(kN.seqT IC).tk ((M3.same kN).kp M5 HS).tk,pI (j:=0) U,jk,λt' JB=>?_⟩;have kt:=smu (o:=HO.tup [V.str "name",V.int i]) JB;exact q _ (.tuple [.str "name",.int i]) (k+1+1) nx _ (((x3.same kN).trans HS).same kt) (M5.same kt) ?A (.tup (SqT.of pF) (.cons (.str _) (.cons (.int _) .nil))) (Be hk1 Ig)
      · exact pJ ?Q (aP (numb H3 (aA.refl _) hlt))
    obtain⟨m,rfl⟩:∃ m',m=m'+1:=Nat.exists_eq_succ_of_ne_zero λz=>hlt (JH z);have Ip:cst (m+1)=8*cst m+12:=rfl;have many:∀ (H4:Hp) (k4:Int) (c:Nat) (Q':VK),Sm Γ.s H H4->MS K H4 Γ k4 nx->k4<=k+2->c<=8->(∀ v ds k' nx' H',Sm Γ.s H H'->MS K H' Γ k' nx'->k'<=k+((cst (m+1):Nat):Int)->BD K H' v (.tuple ds)->ds.length=c->cQ Γ m kn n nx ds nx'->Kp H4 H'->Q' v H')->xZ K (m+1) [.ref Γ.s,.ref kd,.int ((n:Nat):Int),.int ((m+1:Nat):Int),.int ?R] H4 Q':=by
     intro H4 k4 c Q' x4 M4 hk4 h8 g;have hmul:c*cst m<=8*cst m:=Nat.mul_le_mul_right _ h8;exact⟨Γ,kd,k4,nx,ks,kn,n,c,m,U,U,A0.go x4 M4 (Int.le_refl _) ?M,h8,by omega,λv ds k7 Iv H7 x7 M7 IO tv hl ms=>g v ds k7 Iv H7 (x4.trans x7) M7 ?A tv hl ms (M4.kp M7 x7)⟩
    have A3:Ask K H3 Γ kd (k+1) nx ks kn (m+1):=A0.go x3 M3 (Int.le_refl _) ?M;have hcs1:cst (m+1)-1=8*cst m+11:=rfl;refine⟨_,U,U,_,U,pJ ?Q (aP (iD _ _ (ab λsv jj=>?_)))⟩;refine⟨_,U,_,_,U,U,_,U,pJ ?Q (jj _ _ (ab λyn mD=>?_))⟩;refine⟨_,U,_,_,U,U,_,U,?_⟩;by_cases h7:wy<7
    · exact pK ?Q ⟨_,U,_,U,_,U,_,U,Nat.succ_ne_zero _,Γ,kd,k+1,nx,ks,kn,n,U,A3,by omega,λv d k7 Iv H7 x7 M7 IO tv md=>q v d k7 Iv H7 (x3.trans x7) M7 ?A tv md⟩
    refine pJ ?Q (mD _ _ (ab λBX qX=>?_));have widb:∀ H4,aA H3 H4->wy<10->BX [some (.ref Γ.s),some (.ref kd),some (.int ((n:Nat):Int)),some (.int ((m+1:Nat):Int)),some (.int ((wy:Nat):Int)),some (.ref G1),some (.ref G2),none,none] H4:=by
     intro H4 s4 hlt;refine qX _ _ ?_;have x4:=x3.same s4;exact⟨_,U,_,_,U,U,_,U,pK ?Q ⟨_,U,_,U,_,U,_,U,Nat.succ_ne_zero _,Γ,kd,k+1,nx,ks,kn,n,U,A0.go x4 (M3.same s4) (Int.le_refl _) ?M,by omega,λv d k7 Iv H7 x7 M7 IO tv md=>q v d k7 Iv H7 (x4.trans x7) M7 ?A tv md⟩⟩
    by_cases h10:wy<10
    · refine ?T;by_cases e7:wy=7
      · refine pK (by simp[e7]) ⟨_,U,jl,λN hN=>?_⟩;have kN:=smu (o:=HO.lst []) hN;refine⟨G2,N,xs2,U,U,SqL.of (kN _ _ hGy),SqL.of pF,_,U,?_⟩;generalize upd H3 N (.lst [])=H4 at kN ⊢;by_cases e5:HW=[]
        · have:xs2=[]:=List.eq_nil_of_length_eq_zero (by rw[hyl2,e5];rfl);rw[this];exact aP (widb H4 kN h10)
        have hpos:0<HW.length:=List.length_pos_iff.mpr e5;refine pK (by cases xs2 with | nil=>simp at hyl2;omega | cons _ _=>rfl) ?_;refine⟨_,U,_,U,_,U,G2,_,U,.inl (SqL.of (kN _ _ hGy)),(M3.same kN).pick ?A (by rw[hyl2];omega) λr5 H5 J3 HS M5=>?_⟩;rw[hyl2] at J3;obtain⟨⟨i,v,a⟩,hp⟩:∃ p,HW[r5]?=some p:=⟨_,gEE ?A⟩;obtain⟨t,Ie,IC,J4⟩:=hye2 r5 _ hp;have hk1:=Jy _ (mGE hp);refine⟨G2,_,_,V.ref t,U,U,SqL.of (HS _ _ G2S (kN _ _ hGy)),pI Ie,t,_,0,_,U,U,(kN.seqT IC).tk ((M3.same kN).kp M5 HS).tk,pI (j:=0) U,jk,λt' JB=>?_⟩;have kt:=smu (o:=HO.tup [V.str "set",V.int i]) JB;have tg:BD K (upd H5 t' (.tup [V.str "set",V.int i])) (.ref t') (.tuple [.str "set",.int i]):=.tup (SqT.of pF) (.cons (.str _) (.cons (.int _) .nil));have M6:=M5.same kt;have x6:=((x3.same kN).trans HS).same kt;generalize upd H5 t' (.tup [V.str "set",V.int i])=H6 at tg M6 x6 ⊢;refine⟨_,U,_,U,_,U,_,U,many H6 _ 1 _ x6 M6 ?A ?G λv ds k7 Iv H7 x7 M7 IO tv hl ms Kl=>?_⟩;obtain⟨d,rfl⟩:=dM hl;obtain⟨a7,xs7,rfl,ha7,hx7⟩:=tv.tup_of;refine eK (tg.kp Kl) (.tup ha7 hx7) ?B λp H8 s8 tp=>?_;exact q _ (.tuple [.str "set",.int i,d]) k7 Iv _ (x7.same s8) (M7.same s8) IO tp (CL hk1 ms)
      · exact pJ ?Q (aP (widb H3 (aA.refl _) h10))
    refine⟨_,U,U,_,U,pJ ?Q (aP (qX _ _ (ab λGQ Ay=>?_)))⟩;refine⟨_,U,_,_,U,U,_,U,pJ ?Q (Ay _ _ (ab λGP Ax=>?_))⟩;clear widb numb iD jj mD qX Ay;refine ?T;by_cases e10:wy=10
    · refine pK (by simp[e10]) ⟨ma,λW hW=>?_⟩;have kW:=smu (o:=HO.lst (wF.map V.str)) hW;have WS:W≠Γ.s:=λz=>by obtain⟨kv,e⟩:=M3.dk;rw[z,e] at hW;cases hW
      refine⟨_,U,(M3.same kW).pick ?A ?G λr5 H5 J3 HS M5=>?_⟩;have hj:r5<wF.length:=by show r5<3;omega
      refine⟨W,_,_,V.str wF[r5],U,U,SqL.of (HS _ _ WS pF),pI (by simp[hj]),jk,λt ht=>?_⟩;have kt:=smu (o:=HO.tup [V.str "fault",V.str wF[r5]]) ht;have hn:∀ i∈wF,bD i=true:=by left
      exact q _ (.tuple [.str "fault",.str wF[r5]]) (k+1+1) nx _ (((x3.same kW).trans HS).same kt) (M5.same kt) ?A (.tup (SqT.of pF) (.cons (.str _) (.cons (.str _) .nil))) (yt (hn _ (List.getElem_mem hj)))
    refine pJ ?Q (Ax _ _ (ab λGR zF=>?_));refine ?T;by_cases e11:wy=11
    · refine pK (by simp[e11]) (ab λHE Iy=>?_);refine⟨Bc,λW hW=>?_⟩;have kW:=smu (o:=HO.lst (wO.map V.str)) hW;have WS:W≠Γ.s:=λz=>by obtain⟨kv,e⟩:=M3.dk;rw[z,e] at hW;cases hW
      refine⟨_,U,(M3.same kW).pick ?A ?G λr5 H5 J3 HS M5=>?_⟩;have hj:r5<wO.length:=by show r5<4;omega
      refine⟨W,_,_,V.str wO[r5],U,U,SqL.of (HS _ _ WS pF),pI (by simp[hj]),Iy _ _ ?_⟩;have hn:∀ i∈wO,lkT opT i=some (2,2)/\i.length<=4:=by left
      obtain⟨Jx,hn2⟩:=hn _ (List.getElem_mem hj);generalize wO[r5]=wd at Jx hn2 ⊢;refine⟨_,U,_,U,_,U,_,U,_,U,many H5 _ 2 _ ((x3.same kW).trans HS) M5 ?A ?G λv ds k7 Iv H7 x7 M7 IO tv hl ms Kl=>⟨ma,λt ht=>?_⟩⟩;ext i
    refine pJ ?Q (zF _ _ (ab λHI Fc=>?_));refine ?T;by_cases e12:wy=12
    · refine pK (by simp[e12]) ⟨jk,λW hW=>?_⟩;have kW:=smu (o:=HO.lst (wU.map V.str)) hW;have WS:W≠Γ.s:=λz=>by obtain⟨kv,e⟩:=M3.dk;rw[z,e] at hW;cases hW
      refine⟨_,U,(M3.same kW).pick ?A ?G λr5 H5 J3 HS M5=>?_⟩;have hj:r5<wU.length:=by show r5<2;omega
      refine⟨W,_,_,V.str wU[r5],U,U,SqL.of (HS _ _ WS pF),pI (by simp[hj]),?_⟩;have hn:∀ i∈wU,lkT opT i=some (1,1)/\i.length<=4:=by left
      obtain⟨Jx,hn2⟩:=hn _ (List.getElem_mem hj);generalize wU[r5]=wd at Jx hn2 ⊢;refine⟨_,U,_,U,_,U,_,U,many H5 _ 1 _ ((x3.same kW).trans HS) M5 ?A ?G λv ds k7 Iv H7 x7 M7 IO tv hl ms Kl=>⟨ma,λt ht=>?_⟩⟩;ext i
    refine pJ ?Q (Fc _ _ (ab λHH Fb=>?_));refine ?T;by_cases e13:wy=13
    · refine pK (by simp[e13]) ⟨_,U,_,U,_,U,_,U,ma,λW hW=>?_⟩;have kW:=smu (o:=HO.lst ([0,1,8].map V.int)) hW;have WS:W≠Γ.s:=λz=>by obtain⟨kv,e⟩:=M3.dk;rw[z,e] at hW;cases hW
      refine⟨_,U,(M3.same kW).pick ?A ?G λr5 H5 J3 HS M5=>?_⟩;obtain⟨c,hc8,hc⟩:∃ c:Nat,c<=8/\([0,1,8].map V.int)[r5]?=some (V.int ((c:Nat):Int)):=by
       match r5,J3 with
       | 0,_=>exact⟨0,by decide,U⟩
       | 1,_=>exact⟨1,by decide,U⟩
       | 2,_=>exact⟨8,by decide,U⟩
       | r+3,h=>omega
      refine⟨W,_,_,_,U,U,SqL.of (HS _ _ WS pF),pI hc,many H5 _ c _ ((x3.same kW).trans HS) M5 ?A hc8 λv ds k7 Iv H7 x7 M7 IO tv hl ms Kl=>⟨ma,λt ht=>?_⟩⟩;have kt:=smu (o:=HO.tup [V.str "op",V.str "row",v]) ht;exact q _ (.tuple [.str "op",.str "row",.tuple ds]) k7 Iv _ (x7.same kt) (M7.same kt) IO (.tup (SqT.of pF) (.cons (.str _) (.cons (.str _) (.cons (tv.same kt) .nil)))) (Bd (lo:=0) (hi:=8) (by left) ms ?A ?A ?A (by left))
    refine pJ ?Q (Fb _ _ (ab λHG Fa=>?_));refine ?T;by_cases e14:wy=14
    · refine pK (by simp[e14]) ⟨_,U,_,U,_,U,_,U,_,U,M3.pick ?A ?G λr5 H5 J3 HS M5=>⟨_,_,U,U,?_⟩⟩;refine many H5 _ (1+r5) _ (x3.trans HS) M5 ?A ?A λv ds k7 Iv H7 x7 M7 IO tv hl ms Kl=>⟨jk,λt ht=>?_⟩;have kt:=smu (o:=HO.tup [V.str "do",v]) ht;exact q _ (.tuple [.str "do",.tuple ds]) k7 Iv _ (x7.same kt) (M7.same kt) IO (.tup (SqT.of pF) (.cons (.str _) (.cons (tv.same kt) .nil))) (FW ms ?A ?A)
    refine pJ ?Q (Fa _ _ (ab λHF GZ=>?_));clear Ax zF Fc Fb Fa;refine⟨jk,λt1 Ie=>⟨jk,λt2 IC=>⟨jk,λt3 J4=>⟨ma,λW hW=>?_⟩⟩⟩⟩;have k1:=smu (o:=HO.tup [V.str "say",V.int 1]) Ie;have k2:=smu (o:=HO.tup [V.str "while",V.int 2]) IC;have k3:=smu (o:=HO.tup [V.str "if",V.int 3]) J4;have kW:=smu (o:=HO.lst [V.ref t1,V.ref t2,V.ref t3]) hW;have eW:=pF (H:=upd (upd (upd H3 t1 (.tup [V.str "say",V.int 1])) t2 (.tup [V.str "while",V.int 2])) t3 (.tup [V.str "if",V.int 3])) (a:=W) (o:=HO.lst [V.ref t1,V.ref t2,V.ref t3]);have e1:=kW _ _ (k3 _ _ (k2 _ _ (pF (H:=H3) (a:=t1) (o:=HO.tup [V.str "say",V.int 1]))));have e2:=kW _ _ (k3 _ _ (pF (H:=upd H3 t1 (.tup [V.str "say",V.int 1])) (a:=t2) (o:=HO.tup [V.str "while",V.int 2])));have e3:=kW _ _ (pF (H:=upd (upd H3 t1 (.tup [V.str "say",V.int 1])) t2 (.tup [V.str "while",V.int 2])) (a:=t3) (o:=HO.tup [V.str "if",V.int 3]));have kk:=((k1.trans k2).trans k3).trans kW;generalize upd (upd (upd (upd H3 t1 (.tup [V.str "say",V.int 1])) t2 (.tup [V.str "while",V.int 2])) t3 (.tup [V.str "if",V.int 3])) W (.lst [V.ref t1,V.ref t2,V.ref t3])=H4 at eW e1 e2 e3 kk ⊢;clear k1 k2 k3 kW hW;have M4:=M3.same kk;have x4:=x3.same kk;have WS:W≠Γ.s:=λz=>by obtain⟨kv,e⟩:=M4.dk;rw[z,e] at eW;cases eW
    refine⟨_,U,M4.pick ?A ?G λr5 H5 J3 HS M5=>?_⟩;have kp5:=M4.kp M5 HS;obtain⟨t,wd,c,ht,hs,hwd⟩:∃ (t:Addr) (wd:Str) (c:Nat),[V.ref t1,V.ref t2,V.ref t3][r5]?=some (V.ref t)/\H4 t=some (.tup [V.str wd,V.int ((c:Nat):Int)])/\c<=3/\(∀ ds nx',ds.length=c->cQ Γ m kn n nx ds nx'->d6 Γ (m+1) kn n nx (.tuple (.str wd::ds)) nx'):=by
     match r5,J3 with
     | 0,_=>exact⟨t1,"say",1,U,e1,by decide,λds nx' hl ms=>by obtain⟨a,rfl⟩:=dM hl;exact CM ms⟩
     | 1,_=>exact⟨t2,"while",2,U,e2,by decide,λds nx' hl ms=>by obtain⟨a,b,rfl⟩:=f8 hl;exact yq ms⟩
     | 2,_=>exact⟨t3,"if",3,U,e3,by decide,λds nx' hl ms=>by obtain⟨a,b,c,rfl⟩:=gG hl;exact FV ms⟩
     | r+3,h=>omega
    refine⟨W,_,_,V.ref t,U,U,SqL.of (HS _ _ WS eW),pI ht,t,_,U,(SqT.of hs).tk kp5.tk,U,_,_,U,_,_,U,U,GZ _ _ ?_⟩;refine⟨_,U,v3,λp1 hp1=>?_⟩;have kq:=smu (o:=HO.tup [V.str wd]) hp1;have tg:BD K (upd H5 p1 (.tup [V.str wd])) (.ref p1) (.tuple [.str wd]):=.tup (SqT.of pF) (.cons (.str _) .nil);have M6:=M5.same kq;have x6:=(x4.trans HS).same kq;generalize upd H5 p1 (.tup [V.str wd])=H6 at tg M6 x6 ⊢;refine⟨_,U,_,U,_,U,_,U,_,U,many H6 _ c _ x6 M6 ?A ?A λv ds k7 Iv H7 x7 M7 IO tv hl ms Kl=>?_⟩;obtain⟨a7,xs7,rfl,ha7,hx7⟩:=tv.tup_of;refine eK (tg.kp Kl) (.tup ha7 hx7) ?Q λp H8 s8 tp=>?_;exact q _ (.tuple (.str wd::ds)) k7 Iv _ (x7.same s8) (M7.same s8) IO tp (hwd.2 ds Iv hl ms)
   refine ?T;by_cases e:m=0
   · refine pK (by simp[e]) ⟨_,U,_,_,U,U,by decide,?_⟩;have er:((r:Nat):Int) % 3=((r % 3:Nat):Int):=by omega
     have:=bT (r % 3) ?A λ_=>by omega
     rw[<- er] at this;exact this
   · exact pJ ?Q (bT r ?A λz=>absurd z e)
def xE:∀ (kV f g:Value) (h:Option Addr) (k i:Value) (e:List Value),e.length=psE.length->bindArgs (PySem.W.fnOf "_law_e" "_law_e" (du sE) (bW sE) (ad sE) .none kV f g h k i) ⟨e,[]⟩=pure (psE.zip e):=λ_ _ _ _ _ _ e j=>by obtain⟨a,b,c,d,rfl⟩:=qQ j;rfl
def Az (h:spE K m vs H Q E):vs.length=psE.length:=by obtain⟨Γ,d,k,c,a,b,n,rfl,_⟩:=h;rfl
def GD (D:Def K x "_law_e" sE) (T:Blt K x) (d:Fn P w K x base "_law_pick" 2 ["_law_state","_law_many_here"] (jo K)) (c:Fn P w K x base "_law_many" (l+1) psM (tZ K m)) (b:Fn P w K x base "_law_binder" (l+1) psE (spB K m)) (e:Fn P w K x base "_law_wide" (l+2) psE (spB K m)):Fn P w K x base "_law_e" (l+3) psE (spE K m) :=
 D.fn scE (λvs H Q E h=>Az h) xE λf j A a i H g Q E k h=>xD T d c b e f j A a i H g Q E k h
def zP (i:Def K x "_law_e" sE) (h:Def K x "_law_many" sMn) (d:Def K x "_law_binder" sBi) (f:Def K x "_law_wide" sWi) (T:Blt K x) (a:Fn P w K x base "_law_pick" 2 ["_law_state","_law_many_here"] (jo K)):∀ m:Nat,Fn P w K x base "_law_many" (3*m+1) psM (tZ K m)/\Fn P w K x base "_law_binder" (3*m+1) psE (spB K m)/\Fn P w K x base "_law_wide" (3*m+2) psE (spB K m):=by
 intro m
 induction m with
 | zero=>exact⟨BQ h,BV d,BP f⟩
 | succ m b =>
  have c:=GD i T a b.1 b.2.1 b.2.2;have e:3*(m+1)=3*m+3:=by omega
  rw[e];have g:=Ew h T c;exact⟨g,ES d T a c,Ef f T a g⟩
def Dk (K:Fg):Sp:=λvs H Q E=>∃ m,m<4/\spE K m vs H Q E
def EK (c:Def K x "_law_e" sE) (j:Def K x "_law_many" sMn) (d:Def K x "_law_binder" sBi) (g:Def K x "_law_wide" sWi) (T:Blt K x) (b:Fn P w K x base "_law_pick" 2 ["_law_state","_law_many_here"] (jo K)):Fn P w K x base "_law_e" 12 psE (Dk K) :=
 c.fn scE (λvs H Q E h=>by obtain⟨m,_,h⟩:=h;exact Az h) xE λf o A a l H i Q E p h=>by
  obtain⟨m,q,h⟩:=h;obtain⟨k,e,n⟩:=zP c j d g T b m;exact xD T b k e n f o A a l H i Q E (p.mono ?A) h
end
section
variable {K:Fg} {H:Hp} {s w:Addr} {n:Nat} {m:Str->Option V} {k:Int}
def PM.key2 (p:PM K H s w n m k) (v:V) (e:n<100\/∃ u,m x=some u) (h:x≠"script":=by left) (g:x≠"k":=by left):∃ d f,gY H s (.str x) v d/\Mo H s d/\PM K d s w f (dQ m x v) k/\f<=n+1:=by
 rcases e with e | ⟨u,r⟩
 · obtain⟨d,a,b,c⟩:=p.key e v h g;exact⟨d,_,a,b,c,Nat.le_refl _⟩
 · obtain⟨d,o,i,q⟩:=p.st.put r v (by have:=p.hn;omega);obtain⟨j,t,l⟩:=p.ns;exact⟨d,n,o,i,⟨q,p.hn,by rw[bP _ _ (Ne.symm h)];exact p.sc,p.ne,⟨j,SqL.mo t i p.ne,l⟩,by rw[bP _ _ (Ne.symm g)];exact p.hk,p.k0⟩,Nat.le_succ _⟩
end
section
variable {P:Program} {w:World} {K:Fg} {N:SOV} {base:Heap}
abbrev sCo:Stmt:=top 49
abbrev nCo:List Str:=["_law_state","_law_faces","_law_k","_law_functions","_law_opens","_law_known"]
def DO:aM nCo ["_law_state"] (ad sCo):=fsM
inductive B1 (K:Fg) (vs:List V) (H:Hp) (Q:VK):Prop
  | mk (s sa:Addr) (n:Nat) (m:Str->Option V) (k:Int) (h0:vs=[.ref s]) (h1:PM K H s sa n m k) (h2:k<=800000) (h3:n<=80)
    (q:∀ v d n' m' k' H',Sm s H H'->PM K H' s sa n' m' k'->k'<=k+20000->BD K H' v d->yj d->wt d<=30000->dp d<=12->(∃ a b os,d=.tuple [a,b,.tuple os]/\os.length<=5)->Q v H'):B1 K vs H Q
def Dn (K:Fg):Sp:=λvs H Q _=>B1 K vs H Q
def yU:Ao td ty tv D σ H=tv σ H λv b=>td σ b λx c=>ty σ c λy a=>yi x y v a (D.nx σ):=rfl
def o0 {f:List (Str×Nat)} (g:BDs K H xs (f.map dH)) {i:Nat} (e:f[i]?=some (h,c)):∃ t:Addr,xs[i]?=some (V.ref t)/\SqT K H t [V.str h,V.int ?R]/\BD K H (.ref t) (dH (h,c)):=by
 obtain⟨x,l,t⟩:=g.at (by rw[gEM,e];rfl);obtain⟨a,m,rfl,d,b⟩:=BD.tup_of t;refine⟨a,l,?_,t⟩;cases b with
 | cons k b =>
  cases b with
  | cons j b =>
   cases b;rw[k.str_of,j.int_of] at d;exact d
def Fk (a:List Nat):dR a=(rsI a).map .int:=by unfold dR rsI;rw[List.map_map];rfl
def zf (fs:PDs) (f:PyData):opn 0 (fs++[f])=opn 0 fs++if bu f="open" then [((fs.length:Nat):Int)] else []:=by
 rw[sn,Int.zero_add];rfl
def w4c:List Str:=["function","function","deep","open"]
def Hd:∀ m<4,cst m<=2412/\wb m<=5500:=by decide
def EM (D:Def K N "_law_core" sCo) (T:Blt K N) (az:Fn P w K N base "_law_pick" 2 ["_law_state","_law_many_here"] (jo K)) (gB:Fn P w K N base "_law_e" 12 psE (Dk K)):Fn P w K N base "_law_core" 13 ["_law_state"] (Dn K):=by
 refine D.fn DO ?P (λ_ _ _ _ _ _ us hl=>by obtain⟨a,rfl⟩:=dM hl;rfl) (λf kb A outer s0 H vs Q E hr h=>?_)
 · obtain⟨s,sa,n,m,k,rfl,_⟩:=h;rfl
 · obtain⟨s,sa,n,m,k,rfl,p0,hk,hn80,q⟩:=h;have nd:=DO.nd;have hu:=dN hr;ext d
   refine⟨_,(pE (pN (i:=1) nd U ?D (bb pC))
 (pE (cu PassesOwn.never U (bE U T.range (pA (aB az ?S U (pA ?C (pA pG pC))) pC)) (ax (i:=2) nd U ?D)
 (pH (cY (dL ?E (pA (aN (pA (aj b8 (bb (pA pD (pA pD (pA pD (pA pD pC))))) (aB az ?S U (pA ?C (pA pG pC))) ?H) (pA (aB az ?S U (pA ?C (pA pG pC))) pC))) pC)))))
 (pE (dr hu ?C pD ?E U)
 (pE (dr hu ?C pD (fg T.tuple (pA (cO (own:=["_law_k"]) (outs:=[(0,"_law_state")]) U (aG.of (ad sCo) nCo) (bE U T.range (pA (aB az ?S U (pA ?C (pA pG pC))) pC)) (λ_ _ _ _=>⟨(ax (i:=0) F1 U ?D),bC,(aT bY pG (aB az ?S U (pA ?E (pA pG pC))))⟩)) pC)) U)
 (pE (pN (i:=3) nd U ?D (bb pC))
 (pE (pN (i:=4) nd U ?D (bb pC))
 (pE (cu PassesOwn.never U (bE U T.range (pA (bq T.len (pA ?E pC)) pC)) (ax (i:=2) nd U ?D)
 (pE (dr hu ?C pD (pv 2) U)
 (pE (dr hu ?C pD (aj ae (aj b8 ?E (pv 2) ?H) pG ?H) U)
 (pE (iQ (i0:=5) (own:=["_law_one"]) (outs:=[]) (te:=yC (gE (cw 0) (gE (tC (.bl false)) (gE (tC (.int 0)) lJ)))) U (aG.of (ad sCo) nCo) (bE U T.range (pA (aj ae (aj b8 ?E (pv 2) ?H) pG ?H) pC)) (λ_ _ _ _=>⟨(ax (i:=0) (nd1 _) U ?D),bC,(aN (pA ?C (pA bf (pA pG pC))))⟩) nd U U)
 (pE (cY (dL (pv 3) (pA (aT fb (aj b8 ?E (pv 2) ?H) (aN (pA (aB gB ?S U (pA ?C (pA (pv 5) (pA pG (pA (aB az ?S U (pA ?C (pA pG pC))) pC))))) pC))) pC)))
 (pH (aE (pP aZ (aj ae (aj b8 ?E (pv 2) ?H) pG ?H) pD (pQ _)) (pH (cY (dL (pv 4) (pA (@aN _ _ _ _ _ (@pA _ _ _ _ _ (@aj _ _ _ _ _ _ _ b8 (@bb _ _ _ _ (@pA _ _ _ _ _ pD (@pA _ _ _ _ _ pD (@pA _ _ _ _ _ pD (@pA _ _ _ _ _ pD (@pA _ _ _ _ _ pD (@pA _ _ _ _ _ pD pC ?K) ?K) ?K) ?K) ?K) ?K)) (aT dX pG (pv 2)) ?H) (@pA _ _ _ _ _ (pv 2) pC ?K) ?K)) pC)))) am)))))))
 (pH (ak (aN (pA (fg T.tuple (pA (pv 3) pC)) (pA (pM hu ?C pD ?H) (pA (fg T.tuple (pA (uZ T.sorted (pA (pv 4) pC)) pC)) pC))))))))))))),?_⟩
   ext b;refine ab λsw jB=>?_;refine⟨jl,λL hL=>jB _ _ (ab λjP f9=>?_)⟩;have kL:=smu (o:=HO.lst []) hL;have LS:L≠s:=λz=>by obtain⟨kv,e⟩:=p0.dk;rw[z,e] at hL;cases hL
   have pL:=p0.same kL;refine⟨_,U,pL.pick ?A ?G λr1 H1 JF x1 p1=>⟨_,U,by omega,by omega,?_⟩⟩;refine aV.by (bo (lo:=0) (n:=(((r1:Nat):Int)).toNat)) (λi Z J=>Sm s H J/\(∃ m' k',PM K J s sa n m' k'/\k'<=k+1+2*?J)/\(∃ ys R,J L=some (.lst ys)/\BDs K J ys (R.map dH)/\R.length=i/\∀ p∈R,iC p.1=true/\p.2<=4)/\∃ x2,Z=[some (.ref s),some (.ref L),x2,none,none,none])
    ⟨(Sm.of kL).trans x1,⟨_,_,p1,by omega⟩,⟨[],[],x1 _ _ LS pF,.nil,U,λp hp=>by cases hp⟩,_,U⟩ (λ_ _ _ _ _=>trivial) ?_ ?_
   · rintro i u Z J hu ⟨xi,⟨mi,ki,pi_,Ke⟩,⟨ys,R,Ia,Iz,hsl,hhs⟩,x2,rfl⟩;have hi:i<r1:=by have:=(gES.mp hu).1;rwa [bB,Int.toNat_natCast] at this
     rw[aL];refine⟨_,U,.inl ⟨U,_,SqL.of Ia⟩,Bc,λW hW=>?_⟩;have kW:=smu (o:=HO.lst (w4c.map V.str)) hW;have pW:=pi_.same kW;refine⟨_,U,pW.pick ?A ?G λr2 H2 IU x2' p2=>?_⟩;have WS:W≠s:=λz=>by obtain⟨kv,e⟩:=pi_.dk;rw[z,e] at hW;cases hW
     have hr2':r2<w4c.length:=by show r2<4;omega
     have hhd:∀ z∈w4c,iC z=true:=by left
     refine⟨W,_,_,V.str w4c[r2],U,U,SqL.of (x2' _ _ WS pF),pI (by simp[hr2']),?_⟩;refine⟨_,U,p2.pick ?A ?G λr3 H3 Kd C p3=>⟨jk,λt ht=>?_⟩⟩;have kt:=smu (o:=HO.tup [V.str w4c[r2],V.int ((r3:Nat):Int)]) ht;have x03:=((Sm.of (s:=s) kW).trans x2').trans C;have g:=kt _ _ (x03 _ _ LS Ia);have hy3:=(Iz.kp (pi_.kp p3 x03)).same kt;have tt:BD K (upd H3 t (.tup [V.str w4c[r2],V.int ((r3:Nat):Int)])) (.ref t) (dH (w4c[r2],r3)):=.tup (SqT.of pF) (.cons (.str _) (.cons (.int _) .nil));have p4:=p3.same kt;generalize upd H3 t (.tup [V.str w4c[r2],V.int ((r3:Nat):Int)])=H4 at kt g hy3 tt p4 ⊢;have hyl:=Iz.length;rw[lMp] at hyl;refine⟨L,ys,_,U,U,g,by omega,⟨((xi.trans x03).same kt).put hL,⟨_,_,p0.own hL p4 g,by omega⟩,⟨_,R++[(w4c[r2],r3)],pF,?_,by simp[hsl],λp hp=>?_⟩,_,U⟩⟩
     · rw[List.map_append];exact (hy3.snoc tt).kp (cK (.inr ⟨_,g⟩))
     · rcases mAp.mp hp with z | z
       · exact hhs p z
       · rw[mSg.mp z];exact⟨hhd _ (List.getElem_mem hr2'),by omega⟩
   rintro Z H2 ⟨x2,⟨m2,k2,p2,Ig⟩,⟨yf,R,hL2,hyf,hsl,hhs⟩,x2',rfl⟩;rw[bB,Int.toNat_natCast] at hsl Ig;ext q;obtain⟨H3,hp3,mo3,p3⟩:=p2.key (x:="faces") ?A (.ref L);have C:=Mo.sm mo3;refine⟨_,U,_,U,s,H3,U,hp3,fC _ _ (ab λmy gH=>?_)⟩;have x3:=x2.trans C;have g:=C _ _ LS hL2;have hyf3:=hyf.kp (p2.kp p3 C);have ef3:dQ m2 "faces" (.ref L) "faces"=some (.ref L):=dP _ _ _;clear hp3 mo3 C hL2 hyf p2 x2;generalize dQ m2 "faces" (.ref L)=m3 at p3 ef3;rw[yU,ie,dq,bU];refine⟨_,U,p3.pick ?A ?G λr4 H4 hr4 x4' p4=>⟨_,U,by omega,by omega,λG hG=>?_⟩⟩;have kG:=smu (o:=HO.lst []) hG;have x4:=x3.trans x4';have hL4:=x4' _ _ LS g;have hyf4:=hyf3.kp (p3.kp p4 x4');have ef4:dQ m3 "k" (.int (k2+1)) "faces"=some (.ref L):=by rw[bP _ _ (by left)];exact ef3
   have GS:G≠s:=λz=>by obtain⟨kv,e⟩:=p4.dk;rw[z,e] at hG;cases hG
   refine bj.by (bo (n:=(((r4:Nat):Int)).toNat)) (λj Z Hj=>Sm s H4 Hj/\(∃ m' k' I,PM K Hj s sa (n+1) m' k'/\k'<=k+14+((j:Nat):Int)/\m' "faces"=some (.ref L)/\Hj G=some (.lst ((rsI I).map V.int))/\I.length=j/\∀ r∈I,1<=r/\r<=4)/\∃ y,Z=[y,some (.ref s)])
    ⟨Sm.of kG,⟨_,_,[],p4.same kG,by omega,ef4,pF,U,λr hr=>by cases hr⟩,_,U⟩ (λ_ _ _ _ _=>trivial) ?_ ?_
   · rintro j u Z Hj Ix ⟨xj,⟨mj,kj,I,pj,Kr,efj,Id,Jz,hrr⟩,y,rfl⟩;have hj:j<r4:=by have:=(gES.mp Ix).1;rwa [bB,Int.toNat_natCast] at this
     rw[aL,fq];refine aJ ⟨_,U,pj.pick ?A ?G λr5 H5 J3 HS p5=>⟨_,_,U,U,?_⟩⟩;have hG5:=HS _ _ GS Id;refine⟨_,hG5,by unfold rsI;rw[lMp,lMp];omega,(xj.trans HS).put hG,⟨_,_,I++[1+r5],p4.own hG p5 hG5,by omega,by rw[bP _ _ (by left)];exact efj,by unfold rsI;rw[pF,List.map_append,List.map_append];rfl,by simp[Jz],λr hr=>?_⟩,_,U⟩
     rcases mAp.mp hr with z | z
     · exact hrr r z
     · rw[mSg.mp z];omega
   rintro Z H5 ⟨HS,⟨m5,k5,I,p5,hk5,ef5,hG5,Jz,hrr⟩,y,rfl⟩;rw[bB,Int.toNat_natCast] at Jz hk5;refine⟨G,_,U,.inl ⟨SqL.of hG5,λF hF=>?_⟩⟩;have kF:=smu (o:=HO.tup ((rsI I).map V.int)) hF;have x5:=(x4.trans HS).same kF;have x45:=HS.same kF;have p5':=p5.same kF;have hL5:=x45 _ _ LS hL4;have hyf5:=hyf4.kp (p4.kp p5' x45);have tF:BD K (upd H5 F (.tup ((rsI I).map V.int))) (.ref F) (.tuple (dR I)):=.tup (SqT.of pF) (by rw[Fk];exact tD _);generalize upd H5 F (.tup ((rsI I).map V.int))=H5' at x5 p5' hL5 hyf5 tF ⊢;obtain⟨H6,K9,mo6,p6⟩:=p5'.key (x:="records") ?A (.ref F);have x6':=Mo.sm mo6;refine⟨_,U,s,H6,U,K9,gH _ _ (ab λoX iD=>?_)⟩;have x6:=x5.trans x6';have kp6:=p5'.kp p6 x6';have hL6:=x6' _ _ LS hL5;have hyf6:=hyf5.kp kp6;have tF6:=tF.kp kp6;have ef6:dQ m5 "records" (.ref F) "faces"=some (.ref L):=by rw[bP _ _ (by left)];exact ef5
   have er6:dQ m5 "records" (.ref F) "records"=some (.ref F):=dP _ _ _;generalize dQ m5 "records" (.ref F)=m6 at p6 ef6 er6;clear K9 mo6 x6' kp6 x5 hL5 hyf5 tF p5' x45 hG5 kF hF HS p5 hL4 hyf4 kG hG p4 x4' x4 g hyf3 p3 x3;refine⟨jl,λO hA=>iD _ _ (ab λsv jj=>?_)⟩;have kA:=smu (o:=HO.lst []) hA;refine⟨jl,λB hB=>jj _ _ (ab λyn mD=>?_)⟩;have kB:=smu (o:=HO.lst []) hB;have hA7:=kB _ _ (pF (H:=H6) (a:=O) (o:=HO.lst []));have hB7:=pF (H:=upd H6 O (.lst [])) (a:=B) (o:=HO.lst []);have kAB:=kA.trans kB;have pB:=p6.same kA;have p7:=p6.same kAB;have x7:=x6.same kAB;have hL7:=kAB _ _ hL6;have hyf7:=hyf6.same kAB;have tF7:=tF6.same kAB;have AS:O≠s:=λz=>by obtain⟨kv,e⟩:=p6.dk;rw[z,e] at hA;cases hA
   have BS:B≠s:=λz=>by obtain⟨kv,e⟩:=pB.dk;rw[z,e] at hB;cases hB
   have LA:L≠O:=aD hL6 hA;have LB:L≠B:=aD (kA _ _ hL6) hB;have AB:O≠B:=aD pF hB;have hAH:H O=none:=x6.none AS hA;have hBH:H B=none:=(x6.same kA).none BS hB;generalize upd (upd H6 O (.lst [])) B (.lst [])=H7 at hA7 hB7 kAB p7 x7 hL7 hyf7 tF7 ⊢;have hyl:=hyf7.length;rw[lMp] at hyl;refine⟨_,U,L,_,U,.inl (SqL.of hL7),_,U,by omega,by omega,?_⟩;refine aV.by (bo (lo:=0) (n:=((yf.length:Nat):Int).toNat)) (λi Z J=>Sm s H J/\(∃ n' m' k',PM K J s sa n' m' k'/\(n'<=90/\i=0\/(∃ u,m' "number"=some u)/\∃ u,m' "next"=some u)/\k'<=k+40+2420*?J/\m' "faces"=some (.ref L)/\m' "records"=some (.ref F))/\(J L=some (.lst yf)/\BDs K J yf (R.map dH)/\BD K J (.ref F) (.tuple (dR I)))/\(∃ S fs yb Ls,J O=some (.lst S)/\BDs K J S fs/\fs.length=i/\(∀ j f,fs[j]?=some f->ib R I j f)/\J B=some (.lst yb)/\BDs K J yb (Ls.map mkO)/\Ls.Pairwise (·<·)/\(∀ x∈Ls,x<i)/\Ls.length<=i/\Ls.map (λk=>((k:Nat):Int))=opn 0 fs)/\∃ x2 x5,Z=[some (.ref s),some (.ref L),x2,some (.ref O),some (.ref B),x5])
    ⟨x7,⟨_,_,_,p7,.inl ⟨by omega,U⟩,by omega,ef6,er6⟩,⟨hL7,hyf7,tF7⟩,⟨[],[],[],[],hA7,.nil,U,(λj f e=>by simp at e),hB7,.nil,.nil,(λx hx=>by cases hx),Nat.le_refl _,U⟩,_,_,U⟩ (λ_ _ _ _ _=>trivial) ?_ ?_
   · rintro i u Z J Ix ⟨xi,⟨n1,m1,k1,p1,Jx,hk1,ef1,er1⟩,⟨Ia,JM,tFi⟩,⟨S,fs,yb,Ls,hAi,hya,M,hfn,hBi,hyb,hlp,hli,hll,hlo⟩,x2,HS,rfl⟩;obtain rfl:=hV Ix;have hi:i<R.length:=by have:=(gES.mp Ix).1;rwa [bB,Int.toNat_natCast,hyl] at this
     obtain⟨⟨h,c⟩,hic⟩:∃ p,R[i]?=some p:=⟨_,gEE hi⟩;obtain⟨hh8,KJ⟩:=hhs _ (mGE hic);have hc4':c<=4:=KJ;rw[aL];refine ab λFp Iy=>?_;obtain⟨H2,n2,Jw,mo2,p2,hn2⟩:=p1.key2 (x:="number") (.int ?J) (by rcases Jx with ⟨z,_⟩ | ⟨z,_⟩;exact .inl ?A;exact .inr z);have x2':=Mo.sm mo2;refine⟨_,U,_,U,s,H2,U,Jw,Iy _ _ (ab λHB Ik=>?_)⟩;have kp2:=p1.kp p2 x2';obtain⟨t,Ie,IC,J4⟩:=o0 (JM.kp kp2) hic;have hL2:=x2' _ _ LS Ia;refine⟨_,U,_,U,L,yf,_,_,U,U,SqL.of hL2,pI Ie,t,_,1,_,U,U,IC,pI (j:=1) U,?_⟩;obtain⟨H3,n3,hp3,mo3,p3,hn3⟩:=p2.key2 (x:="next") (.int ?R) (by
       rcases Jx with ⟨z,_⟩ | ⟨_,z⟩
       · exact .inl ?A
       · exact .inr (by rw[bP _ _ (by left)];exact z))
     have C:=Mo.sm mo3;refine⟨_,U,s,H3,U,hp3,Ik _ _ (ab λHN IZ=>?_)⟩;have kp3:=p2.kp p3 C;have x3:=x2'.trans C;have g:=C _ _ LS hL2;have hy3:=(JM.kp kp2).kp kp3;obtain⟨t,Ie,IC,J4⟩:=o0 hy3 hic;have tF3:=(tFi.kp kp2).kp kp3;have eN:dQ (dQ m1 "number" (.int ?J)) "next" (.int ?R) "number"=some (.int ?J):=by rw[bP _ _ (by left)];exact dP _ _ _
     have eX:dQ (dQ m1 "number" (.int ?J)) "next" (.int ?R) "next"=some (.int ?R):=dP _ _ _;have eF:dQ (dQ m1 "number" (.int ?J)) "next" (.int ?R) "faces"=some (.ref L):=by rw[bP _ _ (by left),bP _ _ (by left)];exact ef1
     have eR:dQ (dQ m1 "number" (.int ?J)) "next" (.int ?R) "records"=some (.ref F):=by rw[bP _ _ (by left),bP _ _ (by left)];exact er1
     generalize dQ (dQ m1 "number" (.int ?J)) "next" (.int ?R)=m3' at p3 eN eX eF eR;clear Jw hp3 mo2 mo3;rw[dU,bU];refine⟨_,U,_,U,L,yf,_,_,U,U,SqL.of g,pI Ie,t,_,1,_,U,U,IC,pI (j:=1) U,_,U,by omega,by omega,λkd hkd=>?_⟩;have kkd:=smu (o:=HO.lst []) hkd;refine bj.by (bo (n:=(?R).toNat)) (λj Z Hj=>aA H3 Hj/\(∃ ys,Hj kd=some (.lst ys)/\BDs K Hj ys ((rgI 0 j).map λi=>dK (i,false,0))/\ys.length=j)/\∃ y,Z=[y]) ⟨kkd,⟨[],pF,.nil,U⟩,_,U⟩ (λ_ _ _ _ _=>trivial) ?_ ?_
     · rintro j u Z Hj hu2 ⟨sj,⟨ys,Id,Iz,hyl'⟩,y,rfl⟩;obtain rfl:=hV hu2;have hj:j<c:=by have:=(gES.mp hu2).1;rwa [bB,Int.toNat_natCast] at this
       rw[aL,fq];refine aJ ⟨_,U,ma,λt' JB=>?_⟩;have kt:=smu (o:=HO.tup [V.int ((j:Nat):Int),V.bl false,V.int 0]) JB;have hGt:=kt _ _ Id;refine⟨ys,hGt,by omega,aK (sj.trans kt) hkd,⟨_,pF,?_,by simp[hyl']⟩,_,U⟩;rw[gJ,List.map_append,Int.zero_add];exact BDs.kp (cK (.inr ⟨_,hGt⟩)) ((Iz.same kt).snoc (.tup (SqT.of pF) (.cons (.int _) (.cons (.bl _) (.cons (.int _) .nil)))))
     rintro Z H4 ⟨s4,⟨ys,hkd4,hys4,hyl4⟩,y,rfl⟩;rw[bB,Int.toNat_natCast] at hys4 hyl4;refine IZ _ _ (ab λHM Jn=>?_);have M4:MS K H4 ⟨R,i,I,s,sa,L,F⟩ k1 ?R:=⟨⟨n3,m3',p3.same s4,eX,eF,eR,eN⟩,⟨yf,s4 _ _ g,hy3.same s4⟩,tF3.same s4⟩;have hk0:kn0 ?R=cS (λ_=>none) false 0 (rgI 0 c):=by unfold kn0;rw[Int.toNat_natCast]
     have S4:KnS (kn0 ?R) ?R ((rgI 0 c).map λi=>(i,false,0)):=by
      have:=KnS.more (kn:=λ_=>none) (nx:=0) (ks:=[]) (λp hp=>by cases hp) false 0 c;rw[Int.zero_add,List.nil_append,<- hk0] at this;exact this
     have O4:GOk ⟨R,i,I,s,sa,L,F⟩:=⟨λp hp=>(hhs p hp).2,(by show R.length<=10;omega),hi,(by show I.length<=3;omega),hrr⟩;have x34:=x3.same s4;have hA4:=x34 _ _ AS hAi;have hL4:=s4 _ _ g;refine⟨_,U,.inl ⟨U,_,SqL.of hA4⟩,_,U,_,U,L,yf,_,_,U,U,SqL.of hL4,pI Ie,_,U,_,U,_,U,M4.pick ?A ?G λr6 H5 hr6 HS M5=>?_⟩;have hr6':r6<4:=by omega
     obtain⟨Ip,hwb⟩:=Hd r6 hr6';have hkdS:kd≠s:=λz=>by obtain⟨kv,e⟩:=M4.dk;rw[z] at hkd4;rw[show (Gam.mk R i I s sa L F).s=s from rfl,hkd4] at e;cases e
     have V5:KnV K H5 kd ((rgI 0 c).map λi=>(i,false,0)):=⟨ys,HS _ _ hkdS hkd4,by rw[List.map_map];exact hys4.kp (M4.kp M5 HS)⟩;refine⟨r6,hr6',⟨R,i,I,s,sa,L,F⟩,kd,k1+1,?R,_,kn0 ?R,0,U,⟨M5,V5,S4,O4,by rw[lMp,i5];omega⟩,by omega,λv d k7 Iv H7' x7' M7 IO tv md=>?_⟩;have x57:=HS.trans x7';have kp47:=M4.kp M7 x57;refine⟨v3,λt1 ht1'=>?_⟩;have kt1:=smu (o:=HO.tup [v]) ht1';have tv1:BD K (upd H7' t1 (.tup [v])) (.ref t1) (.tuple [d]):=.tup (SqT.of pF) (.cons (tv.same kt1) .nil);have tf1:=((J4.same s4).kp kp47).same kt1;have M8:=M7.same kt1;have x48:=x57.same kt1;generalize upd H7' t1 (.tup [v])=H8 at tv1 tf1 M8 x48 kt1 ⊢;refine eK (xs:=[.str h,.int ?R]) tf1 tv1 ?B λp H9 s9 tp=>?_;have M9:=M8.same s9;have x49:=x48.same s9;have kp49:=M4.kp M9 x49;have hA9:=x49 _ _ AS hA4;have hyal:=hya.length;have x39:=x34.trans x49;refine⟨O,S,.ref p,U,U,hA9,by omega,Jn _ _ ?_⟩;obtain⟨n9,m9,p9,e9x,e9f,e9r,e9n⟩:=M9.pm;have kpi9:=p1.kp p9 x39;have kpA:Kp H9 (upd H9 O (.lst (S++[.ref p]))):=cK (.inr ⟨_,hA9⟩);have p10:PM K (upd H9 O (.lst (S++[.ref p]))) s sa n9 m9 k7:=p6.own hA p9 hA9;have hA10:(upd H9 O (.lst (S++[.ref p]))) O=some (.lst (S++[.ref p])):=pF;have hL10:(upd H9 O (.lst (S++[.ref p]))) L=some (.lst yf):=by rw[ai LA];exact x39 _ _ LS Ia
     have hB10:(upd H9 O (.lst (S++[.ref p]))) B=some (.lst yb):=by rw[ai AB.symm];exact x39 _ _ BS hBi
     have hy10:=(JM.kp kpi9).kp kpA;have tF10:=(tFi.kp kpi9).kp kpA;have hya10:=((hya.kp kpi9).snoc tp).kp kpA;have hyb10:=(hyb.kp kpi9).kp kpA;have x10:Sm s H (upd H9 O (.lst (S++[.ref p]))):=(xi.trans x39).put hAH;generalize upd H9 O (.lst (S++[.ref p]))=JY at kpA p10 hA10 hL10 hB10 hy10 tF10 hya10 hyb10 x10 ⊢;have hfn10:∀ j f,(fs++[PyData.tuple ([.str h,.int ?R]++[d])])[j]?=some f->ib R I j f:=by
      intro j f e;by_cases hj:j<fs.length
      · rw[List.getElem?_append_left hj] at e;exact hfn j f e
      · rw[List.getElem?_append_right ?A] at e;have:j=fs.length:=by
         have:=(gES.mp e).1;simp at this;omega
        subst this;rw[Nat.sub_self] at e;cases e;obtain⟨cs',e1,e2⟩:=md.ft [] λx hx=>by cases hx
        refine⟨h,c,d,cs',Iv,U,by rw[M];exact hic,Ch _ (show r6+1<=40 by omega) e1,λx hx=>by rw[M];exact e2 x hx,by have:=md.wt;omega,by have:=md.dp;omega⟩
     have hk9:k7<=k+40+2420*((i+1:Nat):Int):=by omega
     have tail:(n9<=90/\i+1=0\/(∃ u,m9 "number"=some u)/\∃ u,m9 "next"=some u):=.inr ⟨⟨_,e9n⟩,_,e9x⟩;obtain⟨t',ht1',ht2',_⟩:=o0 hy10 hic;refine⟨_,U,_,U,L,yf,_,_,U,U,SqL.of hL10,pI ht1',t',_,0,_,U,U,ht2',pI (j:=0) U,U,_,U,?_⟩;have hop:=zf fs (PyData.tuple ([.str h,.int ?R]++[d]));have hhd:bu (PyData.tuple ([.str h,.int ?R]++[d]))=h:=rfl;rw[hhd] at hop;by_cases eo:h="open"
     · rw[if_pos eo,M] at hop;refine pK (by simp[eo]) ⟨_,U,.inl ⟨U,_,SqL.of hB10⟩,HC,λW hW=>?_⟩;have kW:=smu (o:=HO.lst [V.str "a",V.str "ab",V.str "abc",V.str "x",V.str "xx",V.str "y"]) hW;have hi5:i<5:=by omega
       have e5:(5:Int)-?J=((5-i:Nat):Int):=by omega
       have h6:([V.str "a",V.str "ab",V.str "abc",V.str "x",V.str "xx",V.str "y"]:List V)[5-i]?=some (V.str (nmK i)):=by
        match i,hi5 with
        | 0,_=>rfl
        | 1,_=>rfl
        | 2,_=>rfl
        | 3,_=>rfl
        | 4,_=>rfl
       refine⟨_,U,_,_,U,U,W,_,_,V.str (nmK i),U,U,SqL.of pF,(by rw[e5];exact pI h6),_,U,jk,λt2 ht2''=>?_⟩;have kt2:=smu (o:=HO.tup [V.str (nmK i),V.int ?J]) ht2'';have Y:=kW.trans kt2;have to:BD K (upd (upd JY W (.lst [V.str "a",V.str "ab",V.str "abc",V.str "x",V.str "xx",V.str "y"])) t2 (.tup [V.str (nmK i),V.int ?J])) (.ref t2) (mkO i):=.tup (SqT.of pF) (.cons (.str _) (.cons (.int _) .nil));generalize upd (upd JY W (.lst [V.str "a",V.str "ab",V.str "abc",V.str "x",V.str "xx",V.str "y"])) t2 (.tup [V.str (nmK i),V.int ?J])=JO at Y to ⊢;have hB11:=Y _ _ hB10;have hybl:=hyb.length;rw[lMp] at hybl;have kpB:Kp JO (upd JO B (.lst (yb++[.ref t2]))):=cK (.inr ⟨_,hB11⟩);refine⟨B,yb,.ref t2,U,U,hB11,by omega,(x10.same Y).put hBH,⟨n9,m9,k7,pB.own hB (p10.same Y) hB11,tail,hk9,e9f,e9r⟩,⟨by rw[ai LB];exact Y _ _ hL10,(hy10.same Y).kp kpB,(tF10.same Y).kp kpB⟩,⟨_,_,_,Ls++[i],by rw[ai AB];exact Y _ _ hA10,(hya10.same Y).kp kpB,by simp[M],hfn10,pF,by rw[List.map_append];exact ((hyb10.same Y).snoc to).kp kpB,?_,?_,by rw[lAp];show Ls.length+1<=_;omega,by rw[hop,List.map_append,hlo];rfl⟩,_,_,U⟩
       · refine List.pairwise_append.mpr ⟨hlp,List.pairwise_singleton ..,λa ha b hb=>?_⟩;rw[mSg.mp hb];exact hli a ha
       · intro x hx
         rcases mAp.mp hx with z | z
         · have:=hli x z;omega
         · rw[mSg.mp z];omega
     · rw[if_neg eo,List.append_nil] at hop;exact pJ (by simp[eo]) ⟨x10,⟨n9,m9,k7,p10,tail,hk9,e9f,e9r⟩,⟨hL10,hy10,tF10⟩,⟨_,_,yb,Ls,hA10,hya10,by simp[M],hfn10,hB10,hyb10,hlp,λx hx=>(by have:=hli x hx;omega),by omega,by rw[hop];exact hlo⟩,_,_,U⟩
   · rintro Z J ⟨xi,⟨n1,m1,k1,p1,Jx,hk1,ef1,er1⟩,⟨Ia,JM,tFi⟩,⟨S,fs,yb,Ls,hAi,hya,M,hfn,hBi,hyb,hlp,hli,hll,hlo⟩,x2,HS,rfl⟩;rw[bB,Int.toNat_natCast,hyl] at M hli hll hk1;refine mD _ _ ?_;have hybl:=hyb.length;rw[lMp] at hybl;have l5:∀ x∈Ls,x<5:=λx hx=>by have:=hli x hx;omega
     refine⟨_,U,O,_,U,.inl ⟨SqL.of hAi,λE1 hE1=>?_⟩⟩;have k1':=smu (o:=HO.tup S) hE1;have tfs:BD K (upd J E1 (.tup S)) (.ref E1) (.tuple fs):=.tup (SqT.of pF) (hya.same k1');have hB1:=k1' _ _ hBi;have hyb1:=hyb.same k1';have p1':=p1.same k1';have tF1:=tFi.same k1';have x1':=xi.same k1';generalize upd J E1 (.tup S)=H1' at tfs hB1 hyb1 p1' tF1 x1' ⊢;refine⟨_,U,s,_,U,p1'.st.get er1,_,U,B,yb,λi=>nmK (Ls.getD i 0),U,SqL.of hB1,by omega,λi y e=>?_,λi j hi hj=>?_,λl hl=>?_⟩
     · obtain⟨d,hd,td⟩:=hyb1.get e;rw[gEM] at hd;obtain⟨x,hx,rfl⟩:=oMS.mp hd;obtain⟨a,zs,rfl,ha,hz⟩:=BD.tup_of (ds:=[.str (nmK x),.int ((x:Nat):Int)]) td;refine⟨a,((x:Nat):Int),U,?_⟩;rw[show Ls.getD i 0=x by rw[List.getD_eq_getElem?_getD,hx];rfl];cases hz with
       | cons t1 hz =>
       cases hz with
       | cons t2 hz =>
       cases hz;rw[t1.str_of,t2.int_of] at ha;exact ha
     · have hi':i<Ls.length:=by omega
       have IW:j<Ls.length:=by omega
       rw[List.getD_eq_getElem?_getD,List.getD_eq_getElem?_getD,gEE hi',gEE IW];show decide ((nmK Ls[i]).cps.toList<(nmK Ls[j]).cps.toList)=decide (j<i)/\(i≠j->nmK Ls[i]≠nmK Ls[j]);obtain⟨a1,a2⟩:=qK Ls[i] (l5 _ (List.getElem_mem hi')) Ls[j] (l5 _ (List.getElem_mem IW));have mono:∀ (a b:Nat) (ha:a<Ls.length) (hb:b<Ls.length),a<b->Ls[a]<Ls[b]:=λa b ha hb Iw=>List.pairwise_iff_getElem.mp hlp a b ha hb Iw;refine⟨a1.trans ?_,λne=>a2 λe=>?_⟩
       · rw[decide_eq_decide];refine⟨λz=>?_,mono j i IW hi'⟩
         rcases Nat.lt_trichotomy i j with q | q | q
         · have:=mono i j hi' IW q;omega
         · subst q;omega
         · exact q
       · rcases Nat.lt_trichotomy i j with q | q | q
         · have:=mono i j hi' IW q;omega
         · exact ne q
         · have:=mono j i IW hi' q;omega
     · have k2':=smu (o:=HO.lst yb.reverse) hl;refine⟨l,_,U,.inl ⟨SqL.of pF,λE2 hE2=>⟨ma,λt ht=>?_⟩⟩⟩;have k3':=smu (o:=HO.tup yb.reverse) hE2;have k4':=smu (o:=HO.tup [V.ref E1,V.ref F,V.ref E2]) ht;have Y:=(k2'.trans k3').trans k4';have hb5:R.length<=5:=by omega
       have Kd:I.length<=3:=by omega
       obtain⟨w1,w2⟩:=uK M hfn hhs hb5 Kd ?A l5;refine q _ (pV fs I Ls) n1 m1 k1 _ (x1'.same Y) (p1'.same Y) ?A (.tup (SqT.of pF) (.cons (tfs.same Y) (.cons (tF1.same Y) (.cons (.tup (SqT.of (k4' _ _ pF)) ?_) .nil)))) (zV M hfn hhs hb5 Kd hrr hlp l5 hlo) w1 w2 ⟨_,_,_,U,by rw[lMp,List.length_reverse];omega⟩;rw[List.map_reverse];exact (hyb1.rev).same Y
end
def xK (l:List V) (h:j<=l.length):gP l none (some ((j:Nat):Int))=l.take j:=by
 unfold gP;rw[HT.rP,HT.oM,List.drop_zero,Nat.sub_zero,Nat.min_eq_left h]
def vh {K:Fg} (h:BDs K H xs ds) (a:r<ds.length):∃ x d,xs[r]?=some x/\ds[r]?=some d/\BD K H x d:=by
 obtain⟨x,b,t⟩:=h.at (gEE a);exact⟨x,_,b,gEE a,t⟩
section
variable {K:Fg} {H:Hp} {a:Addr} {ds:PDs} {j:Nat} {Q:VK}
def nh (f:BD K H (.ref a) (.tuple ds)) (s:j<=ds.length) (q:∀ p c,aA H c->BD K c (.ref p) (.tuple (ds.take j))->Q (.ref p) c):vX K (.ref a) none (some ((j:Nat):Int)) H Q:=by
 obtain⟨n,b,e,h,g⟩:=f.tup_of;cases e;have r:=g.length;have d:=xK b (j:=j) ?A;refine⟨a,b,U,h,λz=>?_,λp i=>?_⟩
 · have:j=b.length\/b.length<=j:=by
    rw[d] at z;have:=congrArg List.length z;rw[lTk] at this;omega
   refine q a H (aA.refl H) ?_;rw[List.take_of_length_le ?A];exact f
 · rw[d];have k:=smu (o:=HO.tup (b.take j)) i;exact q p _ k (.tup (SqT.of pF) ((g.same k).take j))
def kQ (j:Nat) (c:BD K H (.ref a) (.tuple ds)) (q:∀ p d,aA H d->BD K d (.ref p) (.tuple (ds.drop j))->Q (.ref p) d):vX K (.ref a) (some ((j:Nat):Int)) none H Q:=by
 obtain⟨r,b,e,i,g⟩:=c.tup_of;cases e;have s:=g.length;have f:=lB b j;refine⟨a,b,U,i,λz=>?_,λp l=>?_⟩
 · have h:j=0\/ds=[]:=by
    rw[f] at z;have:=congrArg List.length z;rw[List.length_drop] at this;by_cases t:ds.length=0
    · grind
    · exact .inl ?A
   refine q a H (aA.refl H) ?_
   rcases h with rfl | rfl
   · exact c
   · rw[List.drop_nil];exact c
 · rw[f];have k:=smu (o:=HO.tup (b.drop j)) l;exact q p _ k (.tup (SqT.of pF) ((g.same k).drop j))
end
def sB:PDs:=[.none,.bool true,.bool false,.tuple [],.list [],.str "a",.int (-1),.int 0,.tuple [.str "number",.int 1],.tuple [.str "name",.int 0],.dict []]
def w14:List Str:=["function","deep","open","let","var","each","add","not","row","say","a","name","set","do"]
def wK:∀ d∈sB,wt d<=9/\dp d<=2/\∀ l,d=.tuple l->l.length<=2:=by
 intro d b;simp only[sB,List.mem_cons,nMN,or_false] at b
 rcases b with rfl | rfl | rfl | rfl | rfl | rfl | rfl | rfl | rfl | rfl | rfl
 all_goals refine⟨?_,?_,λl e=>?_⟩
 all_goals first
  | (cases e;decide)
  | (cases e;done)
  | (simp only[aC,wts,dv,w_i,w_s "number",w_s "name",w_s "a"];decide)
  | (simp[wt];done)
  | (simp only[bK,dps,d_s,d_i];decide)
  | (simp[dp];done)
section
variable {P:Program} {w:World} {K:Fg} {u:SOV} {base:Heap}
abbrev sBn:Stmt:=top 50
abbrev psB:List Str:=["_law_state","_law_thing","_law_deep"]
abbrev nBn:List Str:=["_law_state","_law_thing","_law_deep","_law_at","_law_way","_law_words"]
def yQ:aM nBn psB (ad sBn):=fsM
inductive qi (K:Fg) (M:Nat) (vs:List V) (H:Hp) (Q:VK):Prop
  | mk (s sa:Addr) (n:Nat) (m:Str->Option V) (k:Int) (v:V) (d:PyData) (h0:vs=[.ref s,v,.int ((M:Nat):Int)]) (h1:PM K H s sa n m k) (h2:k+3*((M:Nat):Int)<=850000) (h3:BD K H v d) (h4:wt d<=40000)
    (q:∀ v' d' m' k' H',Sm s H H'->PM K H' s sa n m' k'->k'<=k+3*((M:Nat):Int)+5->BD K H' v' d'->Bnt d d'->Q v' H'):qi K M vs H Q
def Al (K:Fg) (M:Nat):Sp:=λvs H Q _=>∃ M',M=M'+1/\qi K M' vs H Q
def tw (T:Blt K u) (az:Fn P w K u base "_law_pick" 2 ["_law_state","_law_many_here"] (jo K)) (iI:Fn P w K u base "_law_bent" (l+2) psB (Al K M))
 (f:Addr) (kb:Value) (A:Around) (outer:List Env) (s0:Shared) (H:Hp) (vs:List V) (Q:VK) (E:XK) (hr:fH (l+2) (A.deeper (PyProof.Rows.envOfC "_law_bent" (ad sBn) s0.heap.objs.size f kb))) (h:qi K M vs H Q):
 ∃ t,PSs (iF CX0 P w K u base nBn "_law_bent" (ad sBn) f kb A outer s0 H E).nox (bW sBn) t/\t {nx:=λ_ H'=>Q .non H',rt:=Q} (L2.start nBn vs) H:=by
 · obtain⟨s,sa,n,m,k,v,d,rfl,p0,hk,td,J7,q⟩:=h;have nd:=yQ.nd;ext c
   refine⟨_,(pE (aE (PW.pt (dw (aQ (bO T.isinstance (pA ?E (pA (ba (v:=.ty "tuple") U T.tuple bG U) pC)))) (dw (pP ig (bq T.len (pA ?E pC)) pG (pQ _)) (cX (PW.pt (dw (pP ig (pv 2) pG (pQ _)) (cX (pP ig ?Y pG (pQ _))))))))) (pE (pN (i:=3) nd U ?D (aB az (hr.mono ?A) U (pA ?C (pA (bq T.len (pA ?E pC)) pC))))
 (pH (ak (aT fb (aT fb (cF eA ?E dE (cC (pv 3))) (aN (pA (aB iI hr U (pA ?C (pA (aj ae ?E (pv 3) ?H) (pA (aT dX (pv 2) pG) pC)))) pC))) (cF eA ?E (cC (aT bY (pv 3) pG)) dE))))) am)
 (pE (pN (i:=4) nd U ?D ?Y)
 (pE (aE (PW.pt (dw (aQ (bO T.isinstance (pA ?E (pA (ba (v:=.ty "tuple") U T.tuple bG U) pC)))) (cX (pP gN (pv 4) pG (pQ _))))) (pE (pN (i:=3) nd U ?D (aB az (hr.mono ?A) U (pA ?C (pA (aT bY (bq T.len (pA ?E pC)) pG) pC))))
 (pH (ak (aj b8 (bb (pA (cF eA ?E dE (cC (pv 3))) (pA (aT fb ?E (cF eA ?E (cC (pv 3)) dE)) (pA (aT fb (cF eA ?E dE (cC (pv 3))) (cF eA ?E (cC (aT bY (pv 3) pG)) dE)) (pA (CJ T.list (pA ?E pC)) pC))))) (pv 4) ?H)))) am)
 (pE (aE (PW.pt (dw (aQ (bO T.isinstance (pA ?E (pA (ba (v:=.ty "int") U T.int i8 U) pC)))) (dw (aU (aQ (bO T.isinstance (pA ?E (pA (ba (v:=.ty "bool") U T.bool fE U) pC))))) (cX (pP gN (pv 4) pG (pQ _)))))) (@pH _ _ _ (@ak _ _ _ _ (@aj _ _ _ _ _ _ _ b8 (@bb _ _ _ _ (@pA _ _ _ _ _ (aT bY ?E pG) (@pA _ _ _ _ _ (aT dX ?E pG) (@pA _ _ _ _ _ pG (@pA _ _ _ _ _ pG (@pA _ _ _ _ _ pG pC ?K) ?K) ?K) ?K) ?K)) (pv 4) ?H))) am)
 (pE (aE (PW.pt (dw (aQ (bO T.isinstance (pA ?E (pA (ba (v:=.ty "str") U T.str cG U) pC)))) (cX (pP gN (pv 4) pG (pQ _))))) (@pE _ _ _ _ _ (@pN _ _ 5 _ _ _ _ nd U ?D (@bb _ _ _ _ (@pA _ _ _ _ _ pD (@pA _ _ _ _ _ pD (@pA _ _ _ _ _ pD (@pA _ _ _ _ _ pD (@pA _ _ _ _ _ pD (@pA _ _ _ _ _ pD (@pA _ _ _ _ _ pD (@pA _ _ _ _ _ pD (@pA _ _ _ _ _ pD (@pA _ _ _ _ _ pD (@pA _ _ _ _ _ pD (@pA _ _ _ _ _ pD (@pA _ _ _ _ _ pD (@pA _ _ _ _ _ pD pC ?K) ?K) ?K) ?K) ?K) ?K) ?K) ?K) ?K) ?K) ?K) ?K) ?K) ?K)) ?K (by exact Or.inl U))
 (pH (ak (aj b8 (pv 5) ?Y ?H)))) am)
 (@pH _ _ _ (@ak _ _ _ _ (@aj _ _ _ _ _ _ _ b8 (@bb _ _ _ _ (@pA _ _ _ _ _ qH (@pA _ _ _ _ _ bf (@pA _ _ _ _ _ bf (@pA _ _ _ _ _ (@aN _ _ _ _ _ pC) (@pA _ _ _ _ _ (@bb _ _ _ _ pC) (@pA _ _ _ _ _ pD (@pA _ _ _ _ _ (@iT _ _ _ _ _ _ g9 pG) (@pA _ _ _ _ _ pG (@pA _ _ _ _ _ (@aN _ _ _ _ _ (@pA _ _ _ _ _ pD (@pA _ _ _ _ _ pG pC ?K) ?K)) (@pA _ _ _ _ _ (@aN _ _ _ _ _ (@pA _ _ _ _ _ pD (@pA _ _ _ _ _ pG pC ?K) ?K)) (@pA _ _ _ _ _ fT pC ?K) ?K) ?K) ?K) ?K) ?K) ?K) ?K) ?K) ?K) ?K)) ?Y ?H)))))))),?_⟩
   ext b;refine ab λsw jB=>?_;have IJ:∀ (H1:Hp) (m1:Str->Option V) (k1:Int),Sm s H H1->PM K H1 s sa n m1 k1->k1<=k+1->sw [some (.ref s),some v,some (.int ((M:Nat):Int)),none,none,none] H1:=by
    intro H1 m1 k1 x1 p1 hk1;refine jB _ _ (ab λjP f9=>?_);refine⟨_,U,p1.pick ?A ?G λr H2 IU x2' R=>f9 _ _ (ab λjx fC=>?_)⟩;have x2:=x1.trans x2';have b:=td.kp (p0.kp R x2);have last:jx [some (.ref s),some v,some (.int ((M:Nat):Int)),none,some (.int ((r:Nat):Int)),none] H2:=by
     ext h;have g:my [some (.ref s),some v,some (.int ((M:Nat):Int)),none,some (.int ((r:Nat):Int)),none] H2:=by
      refine gH _ _ (ab λoX iD=>?_);have D:oX [some (.ref s),some v,some (.int ((M:Nat):Int)),none,some (.int ((r:Nat):Int)),none] H2:=by
       refine iD _ _ ?_;refine⟨jl,λI he1=>⟨jl,λG Jq=>⟨1,U,jk,λt1 Ie=>⟨jk,λt2 IC=>λkd hkd=>⟨FU,λW Y=>?_⟩⟩⟩⟩⟩;have k1:=smu (o:=HO.tup []) he1;have k2:=smu (o:=HO.lst []) Jq;have k3:=smu (o:=HO.tup [V.str "number",V.int 1]) Ie;have k4:=smu (o:=HO.tup [V.str "name",V.int 0]) IC;have k5:=smu (o:=HO.dK []) hkd;have k6:=smu (o:=HO.lst [V.non,V.bl true,V.bl false,V.ref I,V.ref G,V.str "a",V.int (-1),V.int 0,V.ref t1,V.ref t2,V.ref kd]) Y;have y:=((((k1.trans k2).trans k3).trans k4).trans k5).trans k6;have B:BDs K (upd (upd (upd (upd (upd (upd H2 I (.tup [])) G (.lst [])) t1 (.tup [V.str "number",V.int 1])) t2 (.tup [V.str "name",V.int 0])) kd (.dK [])) W (.lst [V.non,V.bl true,V.bl false,V.ref I,V.ref G,V.str "a",V.int (-1),V.int 0,V.ref t1,V.ref t2,V.ref kd])) [V.non,V.bl true,V.bl false,V.ref I,V.ref G,V.str "a",V.int (-1),V.int 0,V.ref t1,V.ref t2,V.ref kd] sB :=
        .cons .non (.cons (.bl _) (.cons (.bl _) (.cons (.tup (SqT.of (k6 _ _ (k5 _ _ (k4 _ _ (k3 _ _ (k2 _ _ pF)))))) .nil) (.cons (.lst (k6 _ _ (k5 _ _ (k4 _ _ (k3 _ _ pF))))) (.cons (.str _) (.cons (.int _) (.cons (.int _) (.cons (.tup (SqT.of (k6 _ _ (k5 _ _ (k4 _ _ pF)))) (.cons (.str _) (.cons (.int _) .nil))) (.cons (.tup (SqT.of (k6 _ _ (k5 _ _ pF))) (.cons (.str _) (.cons (.int _) .nil))) (.cons (.dct (k6 _ _ pF)) .nil))))))))))
       have p:=pF (H:=upd (upd (upd (upd (upd H2 I (.tup [])) G (.lst [])) t1 (.tup [V.str "number",V.int 1])) t2 (.tup [V.str "name",V.int 0])) kd (.dK [])) (a:=W) (o:=HO.lst [V.non,V.bl true,V.bl false,V.ref I,V.ref G,V.str "a",V.int (-1),V.int 0,V.ref t1,V.ref t2,V.ref kd]);generalize upd (upd (upd (upd (upd (upd H2 I (.tup [])) G (.lst [])) t1 (.tup [V.str "number",V.int 1])) t2 (.tup [V.str "name",V.int 0])) kd (.dK [])) W (.lst [V.non,V.bl true,V.bl false,V.ref I,V.ref G,V.str "a",V.int (-1),V.int 0,V.ref t1,V.ref t2,V.ref kd])=H3 at y B p ⊢;have J:=R.same y;have WS:W≠s:=λz=>by obtain⟨kv,e⟩:=J.dk;rw[z,e] at p;cases p
       refine⟨_,U,J.pick ?A ?G λj H4 hj C p4=>?_⟩;have S:j<sB.length:=by show j<11;omega
       obtain⟨x,L,Z,hx2,tx⟩:=vh B S;obtain⟨f1,f2,f3⟩:=wK L (mGE hx2);exact⟨W,_,_,x,U,U,SqL.of (C _ _ WS p),pI Z,q _ L _ _ _ ((x2.same y).trans C) p4 ?A (tx.kp (J.kp p4 C)) (.flat d f1 f2 f3)⟩
      refine⟨_,U,v,d,_,U,b,lR,T.kit,_,U,?_⟩;cases e:cA "str" d with
      | false=>exact aP (aP D)
      | true =>
      refine aJ ⟨_,U,_,_,U,U,_,U,?_⟩;by_cases h6:((r:Nat):Int)<6
      · refine pK (by simpa using h6) (ab λFp Iy=>?_);refine⟨FQ,λW Y=>Iy _ _ ?_⟩;have kW:=smu (o:=HO.lst (w14.map V.str)) Y;have pW:=R.same kW;have WS:W≠s:=λz=>by obtain⟨kv,e⟩:=R.dk;rw[z,e] at Y;cases Y
        refine⟨_,U,_,U,pW.pick ?A ?G λj H3 hj N J=>?_⟩;have S:j<w14.length:=by show j<14;omega
        have hw:∀ z∈w14,z.length<=8:=by left
        have:=hw _ (List.getElem_mem S);exact⟨W,_,_,V.str w14[j],U,U,SqL.of (N _ _ WS pF),pI (by simp[S]),q _ (.str w14[j]) _ _ _ ((x2.same kW).trans N) J ?A (.str _) (.flat d (by rw[dv];omega) (by rw[d_s];decide) (λl e=>by cases e))⟩
      · exact pJ (by simpa using h6) D
     refine⟨_,U,v,d,_,U,b,Cb,T.kit,_,U,?_⟩;cases e:cA "int" d with
     | false=>exact aP (aP g)
     | true =>
     refine aJ ⟨_,U,v,d,_,U,b,wW,T.kit,_,U,?_⟩;cases I:cA "bool" d with
     | true=>exact aP (aP g)
     | false =>
     obtain⟨i,rfl⟩:∃ i,d=.int i:=by cases d <;> first | exact⟨_,U⟩ | exact absurd e Bool.false_ne_true | exact absurd I.symm Bool.false_ne_true
     obtain rfl:=b.int_of;refine aJ ⟨_,U,_,_,U,U,_,U,?_⟩;by_cases h5:((r:Nat):Int)<5
     · refine pK (by simpa using h5) ⟨_,U,_,_,U,U,_,U,_,_,U,U,Hs,λW Y=>?_⟩;have kW:=smu (o:=HO.lst ([i+1,i-1,0,1,32768].map V.int)) Y;have IX:r<[i+1,i-1,0,1,32768].length:=by show r<5;omega
       have hm:([i+1,i-1,0,1,32768].map V.int)[r]?=some (V.int [i+1,i-1,0,1,32768][r]):=by rw[gEM,gEE IX];rfl
       exact⟨_,U,W,_,_,V.int [i+1,i-1,0,1,32768][r],U,U,SqL.of pF,pI hm,q _ (.int [i+1,i-1,0,1,32768][r]) _ _ _ (x2.same kW) (R.same kW) ?A (.int _) (.flat _ (by rw[w_i];decide) (by rw[d_i];decide) (λl e=>by cases e))⟩
     · exact pJ (by simpa using h5) g
    refine⟨_,U,v,d,_,U,b,iB,T.kit,_,U,?_⟩;cases e:cA "tuple" d with
    | false=>exact aP (aP last)
    | true =>
    obtain⟨l,rfl⟩:=eZ e;obtain⟨a,xs,rfl,ha,hx⟩:=b.tup_of;have hxl:=hx.length;have hll:l.length<=40000:=by have:=cN l;rw[aC] at J7;omega
    refine aJ ⟨_,U,_,_,U,U,_,U,?_⟩;by_cases h4:((r:Nat):Int)<4
    · refine pK (by simpa using h4) (ab λFp Iy=>?_);refine⟨_,U,_,U,a,_,U,.inr ha,_,_,U,U,R.pick ?A ?A λj H3 hj N J=>Iy _ _ ?_⟩;have S:j<=l.length:=by omega
      have x3:=x2.trans N;have c:BD K H3 (.ref a) (.tuple l):=BD.kp (R.kp J N) b;refine⟨_,U,?_⟩;rw[fi,dD];refine⟨_,U,_,U,nh c S λb1 H4 s4 t4=>?_⟩;refine⟨_,U,_,U,?_⟩;rw[dD];refine⟨_,U,_,U,?_⟩;rw[fi];refine kQ j (c.same s4) λb2 H5 s5 t5=>?_;refine eK ((c.same s4).same s5) t5 (by rw[List.length_drop];omega) λb3 H6 s6 t6=>?_;have s36:=(s4.trans s5).trans s6;refine⟨_,U,?_⟩;rw[fi,dD];refine⟨_,U,_,U,nh (c.same s36) S λb4 H7 s7 t7=>?_⟩;refine⟨_,U,?_⟩;rw[dD];refine⟨_,U,_,_,U,U,_,U,?_⟩;rw[fi];refine kQ (j+1) ((c.same s36).same s7) λb5 H8 s8 t8=>?_;refine eK (t7.same s8) t8 (by rw[lTk,List.length_drop];omega) λb6 H9 s9 t9=>?_;have s39:=((s36.trans s7).trans s8).trans s9;obtain⟨_,O,e9,ha9,hx9⟩:=(c.same s39).tup_of;cases e9;refine⟨_,U,a,O,U,.inr ha9,λG Jq=>?_⟩;have k1:=smu (o:=HO.lst O) Jq;refine⟨Bc,λW Y=>?_⟩;have k2:=smu (o:=HO.lst [V.ref b1,V.ref b3,V.ref b6,V.ref G]) Y;have y:=k1.trans k2;have p:=pF (H:=upd H9 G (.lst O)) (a:=W) (o:=HO.lst [V.ref b1,V.ref b3,V.ref b6,V.ref G]);have hl2:=k2 _ _ (pF (H:=H9) (a:=G) (o:=HO.lst O));have u1:=((((((t4.same s5).same s6).same s7).same s8).same s9).same y);have u3:=((((t6.same s7).same s8).same s9).same y);have u6:=t9.same y;generalize upd (upd H9 G (.lst O)) W (.lst [V.ref b1,V.ref b3,V.ref b6,V.ref G])=JO at y p hl2 u1 u3 u6 ⊢;obtain⟨x,L,IG,bx,tx⟩:∃ x L,[V.ref b1,V.ref b3,V.ref b6,V.ref G][r]?=some x/\Bnt (.tuple l) L/\BD K JO x L:=by
       match r,h4 with
       | 0,_=>exact⟨_,_,U,.take l j,u1⟩
       | 1,_=>exact⟨_,_,U,.dbl l j,u3⟩
       | 2,_=>exact⟨_,_,U,.cut l j,u6⟩
       | 3,_=>exact⟨_,_,U,.flat _ (d':=.list []) (by simp[wt]) (by simp[dp]) (λl e=>by cases e),.lst hl2⟩
       | r+4,h=>omega
      exact⟨_,U,W,_,_,x,U,U,SqL.of p,pI IG,q _ L _ _ _ (x3.same (s39.trans y)) (J.same (s39.trans y)) ?A tx bx⟩
    · exact pJ (by simpa using h4) last
   refine⟨_,U,v,d,_,U,td,iB,T.kit,_,U,?_⟩;cases e:cA "tuple" d with
   | false=>exact aP (aP (IJ H m k (Sm.refl _ _) p0 ?A))
   | true =>
   obtain⟨l,rfl⟩:=eZ e;obtain⟨a,xs,rfl,ha,hx⟩:=td.tup_of;have hxl:=hx.length;have hll:l.length<=40000:=by have:=cN l;rw[aC] at J7;omega
   refine aJ ⟨_,U,a,_,U,.inr ha,_,_,U,U,_,U,?_⟩;by_cases hl0:l=[]
   · exact pJ (by rw[hxl,hl0];simp) (aP (IJ H m k (Sm.refl _ _) p0 ?A))
   have hpos:0<l.length:=List.length_pos_iff.mpr hl0;refine pK ?Q ⟨_,U,_,_,U,U,_,U,?_⟩;by_cases hM0:M=0
   · exact pJ (by simp[hM0]) (aP (IJ H m k (Sm.refl _ _) p0 ?A))
   obtain⟨M,rfl⟩:∃ M',M=M'+1:=Nat.exists_eq_succ_of_ne_zero hM0;refine pK ?B ⟨_,U,p0.pick ?A ?G λr H1 JF x1 p1=>⟨_,_,U,U,_,U,?_⟩⟩;by_cases hr0:r=0
   · exact pJ (by simp[hr0]) (IJ H1 _ _ x1 p1 ?A)
   refine pK ?Q (ab λFp Iy=>?_);have td1:=td.kp (p0.kp p1 x1);obtain⟨_,_,I,ha1,Z⟩:=td1.tup_of;cases I;refine⟨_,U,_,U,a,_,U,.inr ha1,p1.pick ?A (by rw[Z.length];omega) λj H2 hj x2 R=>Iy _ _ ?_⟩;rw[Z.length] at hj;have S:j<l.length:=by omega
   have x02:=x1.trans x2;have b:=td1.kp (p1.kp R x2);refine⟨_,U,?_⟩;rw[fi,dD];refine⟨_,U,_,U,nh b (Nat.le_of_lt S) λb1 H3 s3 t3=>?_⟩;have c:=b.same s3;have J:=R.same s3;have x3:=x02.same s3;obtain⟨_,xs3,e3,ha3,hx3⟩:=c.tup_of;cases e3;obtain⟨L,Kg⟩:∃ L,l[j]?=some L:=⟨_,gEE S⟩;obtain⟨x,hxj,tx⟩:=hx3.at Kg;have hwx:=cM (mGE Kg);rw[aC] at J7;refine⟨_,U,_,U,_,U,a,xs3,_,x,U,U,ha3,pI hxj,_,U,_,_,U,U,M,U,s,sa,n,_,_,x,L,by rw[vy];rfl,J,by omega,tx,by omega,λv' d' m' k' H4 C p4 hk4 t4 b4=>⟨v3,λt ht=>?_⟩⟩;have kt:=smu (o:=HO.tup [v']) ht;have tv:BD K (upd H4 t (.tup [v'])) (.ref t) (.tuple [d']):=.tup (SqT.of pF) (.cons (t4.same kt) .nil);have kp34:=J.kp p4 C;refine eK ((t3.kp kp34).same kt) tv (by rw[lTk];show min j l.length+1<=_;omega) λb2 H5 s5 t5=>?_;refine⟨_,U,?_⟩;rw[dD];refine⟨_,U,_,_,U,U,_,U,?_⟩;rw[fi];refine kQ (j+1) (((c.kp kp34).same kt).same s5) λb3 H6 s6 t6=>?_;refine eK (t5.same s6) t6 (by rw[lAp,lTk,List.length_drop];show min j l.length+1+_<=_;omega) λb4' H7 s7 t7=>?_;have y:=((kt.trans s5).trans s6).trans s7;exact q _ _ _ _ _ ((x3.trans C).same y) (p4.same y) ?A t7 (.set Kg b4)
end
end K13
set_option maxHeartbeats 4000000
namespace L2
open PySem PySem.Spec PyProof.Rows
def Bk (K:Fg) (trs:List (TE×TE)):TE:=λσ H Q=>∀ p,H p=none->K.lookup p=none->na trs σ (upd H p (.dK [])) λps H2=>H2 p=some (.dK [])/\∃ kvs:List (Key×V),ps=kvs.map (λkv=>(kV kv.1,kv.2))/\kvs.length<=15/\Q (.ref p) (upd H2 p (.dK (br [] kvs)))
def wu {X:Cx} {g:Pos} {a:List (Option Expr)} {b:List Expr} {j:List (TE×TE)} (h:PPs X g a b j) (u:a.all (·.isSome)=true) (v:a.length=b.length) (E:a≠[])
 (l:a.length<=15):PE X (.Dict a b g) (Bk X.K j):=by
 intro k s W H Q I q;have p:=I.hok.fresh (Nat.le_refl s.heap.objs.size);have C:X.K.lookup s.heap.objs.size=none:=by
  cases e:X.K.lookup s.heap.objs.size with
  | none=>rfl
  | some o=>exact absurd (Heap.lt_size (I.kIn _ o e)) (Nat.lt_irrefl _)
 have B:=I.laid (t':=s.toks) (λ_ _ q=>hpS _ q) ?M (j9 s.heap I.big);refine wpAny_Dict_walk (knd:=aI X.prog X.w) u v E l (thn (h k _ W _ _ B (q _ p C)) λY S d=>?_);obtain⟨P,R,n,m,e,f,y,T,x⟩:=d;subst y;obtain⟨N,c,F⟩:=iG m;obtain⟨z,L,t,A,O⟩:=ij n.hok e;cases A;refine⟨N,c,O,λZ i D=>⟨.ref s.heap.objs.size,_,?_,U,x⟩⟩;have r:(br [] f).length<=sizeLine:=by
  have G:=eE f [];rw[List.length_nil] at G;rw[sizeLine_eq];lia
 obtain⟨J,_,_,M,_⟩:=id i;exact dG n (by rw[e];exact True.intro) D ⟨J,M⟩ (iE r L (F.merge .nil) i)
section
variable {X:Cx}
def BL:OpR X (compareOp .Is) (λx y H Q=>∃ a b,x=.bl a/\y=.bl b/\Q (.bl (a==b)) H):=by
 intro c s σ H x y v u Q I e d h;obtain⟨a,b,rfl,rfl,q⟩:=h;cases e;cases d;exact is_bool ⟨.bl _,H,I,U,q⟩
def zg:OpR X (compareOp .IsNot) (λx y H Q=>∃ a b,x=.bl a/\y=.bl b/\Q (.bl (a != b)) H):=by
 intro c s σ H x y v u Q I e d h;obtain⟨a,b,rfl,rfl,q⟩:=h;cases e;cases d;exact isnot_bool ⟨.bl _,H,I,U,q⟩
end
end L2
set_option maxHeartbeats 2000000
namespace K13
open PySem L2 PySem.Spec PyProof.Rows PySem.SeqAt
section
variable {P:Program} {w:World} {K:Fg} {mg:SOV} {base:Heap}
def ou:∀ (kV e h:Value) (g:Option Addr) (i j:Value) (d:List Value),d.length=psB.length->bindArgs (PySem.W.fnOf "_law_bent" "_law_bent" (du sBn) (bW sBn) (ad sBn) .none kV e h g i j) ⟨d,[]⟩=pure (psB.zip d):=λ_ _ _ _ _ _ d f=>by obtain⟨a,b,c,rfl⟩:=gG f;rfl
def xR (h:qi K M vs H Q):vs.length=psB.length:=by obtain⟨s,a,n,m,k,v,d,rfl,_⟩:=h;rfl
def xS (D:Def K mg "_law_bent" sBn) (T:Blt K mg) (j:Fn P w K mg base "_law_pick" 2 ["_law_state","_law_many_here"] (jo K)):∀ M:Nat,Fn P w K mg base "_law_bent" (M+2) psB (Al K M):=by
 intro M
 induction M with
 | zero=>exact D.fn yQ (λvs H Q E h=>by obtain⟨b,e,_⟩:=h;cases e) ou λf i A a d H c Q E g h=>by obtain⟨b,e,_⟩:=h;cases e
 | succ M k =>
  refine D.fn yQ (λvs H Q E h=>by obtain⟨b,e,h⟩:=h;exact xR h) ou λf i A a d H c Q E g h=>?_;obtain⟨b,e,h⟩:=h;obtain rfl:=Nat.succ.inj e;exact tw T j k f i A a d H c Q E g h
def Dq (K:Fg):Sp:=λvs H Q _=>∃ M,M<16/\qi K M vs H Q
def ER (D:Def K mg "_law_bent" sBn) (T:Blt K mg) (b:Fn P w K mg base "_law_pick" 2 ["_law_state","_law_many_here"] (jo K)):Fn P w K mg base "_law_bent" 18 psB (Dq K) :=
 D.fn yQ (λvs H Q E h=>by obtain⟨M,_,h⟩:=h;exact xR h) ou λf g A a d H c Q E e h=>by
  obtain⟨M,i,h⟩:=h;exact tw T b (xS D T b M) f g A a d H c Q E (e.mono ?A) h
abbrev nq:Stmt:=top 60
abbrev GO:List Str:=["_law_script","_law_state","_law_k","_law_core_here","_law_reply","_law_bent_here"]
def Am:aM GO ["_law_script"] (ad nq):=fsM
inductive y6 (K:Fg) (vs:List V) (H:Hp) (Q:VK):Prop
  | mk (a:Addr) (ns:List Int) (Iy:vs=[.ref a]) (Ik:SqL K H a (ns.map V.int)) (IZ:ns.length<=63) (Jn:∀ H',Q (.bl true) H'):y6 K vs H Q
def rM (K:Fg):Sp:=λvs H Q _=>y6 K vs H Q
def kS {P:Prop} (d:a=true↔P) (c:b=true↔P):a=b:=by
 cases a <;> cases b <;> simp_all
def BU (F:Fun K "law" "law" nq f fd) (T:Blt K mg) (ff:Fn P w K mg base "right_core" 6 ["thing"] (yL K)) (jJ:Fn P w K mg base "_law_due" 123 ["_law_core_here"] (yL K)) (lZ:Fn P w K mg base "_law_callers" 3 ["_law_state"] (Dp K)) (rB:Fn P w K mg base "_law_core" 13 ["_law_state"] (Dn K)) (iI:Fn P w K mg base "_law_bent" 18 psB (Dq K)) (az:Fn P w K mg base "_law_pick" 2 ["_law_state","_law_many_here"] (jo K)):L2.ib P w K mg base CX0 124 f fd ["_law_script"] (rM K):=by
 refine F.ok Am ?P (λcdv A outer s0 H vs Q E t h=>?_)
 · obtain⟨a,ns,rfl,_⟩:=h;rfl
 · obtain⟨a,ns,rfl,hS,Z,q⟩:=h;have G:=Am.nd;have Iq:4000000<sizeLine:=by decide
   refine⟨_,(@pE _ _ _ _ _ (@pN _ _ 1 _ _ _ _ G U ?D (@wu _ _ _ _ _ (@b0 _ _ _ _ _ _ _ _ _ pD ?C (@b0 _ _ _ _ _ _ _ _ _ pD pG iR)) U U ?B ?G) ?K (by exact Or.inl U))
 (pE (cu PassesOwn.never U (bE U T.range (pA pG pC)) (ax (i:=2) G U ?D)
 (pE (pN (i:=3) G U ?D (aB lZ (t.mono ?G) U (pA ?E pC)))
 (pE (pN (i:=4) G U ?D (aB ff (t.mono ?G) U (pA (pv 3) pC)))
 (pH (aE (PW.pt (bF (aU (aQ (bO T.isinstance (pA (pv 4) (pA (ba (v:=.ty "bool") U T.bool fE U) pC))))) (bJ (pP fz (pv 4) (aB jJ (t.mono ?G) U (pA (pv 3) pC)) (pQ _))))) ?O am)))))
 (pE (pN (i:=3) G U ?D (aB rB (t.mono ?G) U (pA ?E pC)))
 (pE (aE (PW.pt (bF (pP zg (aB ff (t.mono ?G) U (pA (pv 3) pC)) bf (pQ _)) (bJ (aU (aQ (aB jJ (t.mono ?G) U (pA (pv 3) pC))))))) ?O am)
 (pE (cu PassesOwn.never U (bE U T.range (pA pG pC)) (ax (i:=2) G U ?D)
 (pE (pN (i:=5) G U ?D (aB iI (t.mono ?G) U (pA ?E (pA (pv 3) (pA (aT bY pG (aB az (t.mono ?G) U (pA ?E (pA pG pC)))) pC)))))
 (pE (pN (i:=4) G U ?D (aB ff (t.mono ?G) U (pA (pv 5) pC)))
 (pH (aE (PW.pt (bF (aU (aQ (bO T.isinstance (pA (pv 4) (pA (ba (v:=.ty "bool") U T.bool fE U) pC))))) (bJ (pP fz (pv 4) (aB jJ (t.mono ?G) U (pA (pv 5) pC)) (pQ _))))) ?O am)))))
 (pH (ak (bL BL (aB ff (t.mono ?G) U (pA (pv 3) pC)) bf (pQ _))))))))),?_⟩
   ext b;refine ab λjP f9=>?_;refine λs hs Y=>⟨_,U,pF,[(.inr "script",.ref a),(.inr "k",.int 0)],U,(by show 2<=15;decide),f9 _ _ (ab λjx fC=>?_)⟩;have k1:aA H (upd (upd H s (.dK [])) s (.dK (br [] [(.inr "script",.ref a),(.inr "k",.int 0)]))):=aK (smu hs) hs;have ne:a≠s:=λz=>by
    rw[z] at hS
    rcases hS with (h | ⟨o,h⟩) | ⟨o,_,_,h,_⟩
    · rw[hs] at h;cases h
    · rw[hs] at h;cases h
    · rw[Y] at h;cases h
   have p1:PM K (upd (upd H s (.dK [])) s (.dK (br [] [(.inr "script",.ref a),(.inr "k",.int 0)]))) s a 2 (λx=>bd (br [] [(.inr "script",V.ref a),(.inr "k",V.int 0)]) (.inr x)) 0 :=
    ⟨⟨_,pF,(by exact Nat.le_refl 2),λ_=>rfl⟩,by decide,U,ne,⟨ns,SqL.sm hS (Sm.of (s:=s) k1) ne,Z⟩,U,Int.le_refl _⟩
   generalize upd (upd H s (.dK [])) s (.dK (br [] [(.inr "script",.ref a),(.inr "k",.int 0)]))=H1 at p1 ⊢;generalize (λx:Str=>bd (br [] [(.inr "script",V.ref a),(.inr "k",V.int 0)]) (.inr x))=m1 at p1;clear k1 hs Y hS;refine⟨_,U,by omega,by omega,?_⟩;refine aV.by (bo (lo:=0) (n:=((4:Int)).toNat)) (λi σ R=>(∃ m' N,PM K R s a 2 m' N/\N<=30*?J)/\∃ J x3 I M,σ=[some (.ref a),some (.ref s),J,x3,I,M]) ⟨⟨_,_,p1,by omega⟩,_,_,_,_,U⟩ (λ_ _ _ _ _=>trivial) ?_ ?_
   · rintro i u σ R hu ⟨⟨mi,ki,B,Ke⟩,J,x3,I,M,rfl⟩;have hi:i<4:=by have:=(gES.mp hu).1;rwa [bB] at this
     rw[aL];refine ab λFp Iy=>?_;refine⟨_,U,s,a,2,mi,ki,U,B,by omega,λv fs m' N H2 x2' p2 Ig O hw hd=>Iy _ _ (ab λHB Ik=>?_)⟩;have J7:wt (.tuple [.tuple fs,.tuple [],.tuple []])<=90000:=by simp only[aC,wts];omega
     have IM:dp (.tuple [.tuple fs,.tuple [],.tuple []])<=40:=by simp only[bK,dps];omega
     have l:∀ (b c:PyData) (S:PDs),PyData.tuple [.tuple fs,.tuple [],.tuple []]=.tuple [b,c,.tuple S]->S.length<60:=λb c S e=>by cases e;decide
     refine⟨_,U,v,_,U,O,J7,IM,l,λC H3 s3 j=>Ik _ _ ?_⟩;refine⟨_,U,.bl C,.bool C,_,U,.bl _,wW,T.kit,_,U,aP ?_⟩;refine⟨_,U,_,U,v,_,U,O.same s3,J7,IM,l,λb2 H4 s4 p=>?_⟩;obtain rfl:=kS j p;refine⟨U,_,U,pJ ?B ⟨⟨m',N,p2.same (s3.trans s4),by omega⟩,_,_,_,_,U⟩⟩
   rintro σ H2 ⟨⟨m2,k2,p2,Ig⟩,J,x3,I,M,rfl⟩;rw[bB] at Ig;ext h;refine⟨_,U,s,a,2,m2,k2,U,p2,by omega,by decide,λv d n3 m3 k3 H3 x3' p3 hk3 O L hw hd Je=>gH _ _ (ab λoX iD=>?_)⟩;have hk2':k2<=120:=by have:((4:Int).toNat:Int)=4:=rfl;omega
   obtain⟨ca,cb,S,rfl,hol⟩:=Je;have l:∀ (b c:PyData) (g:PDs),PyData.tuple [ca,cb,.tuple S]=.tuple [b,c,.tuple g]->g.length<60:=λb c g e=>by cases e;omega
   refine⟨_,U,v,_,U,O,by omega,by omega,l,λC H4 s4 j=>⟨_,_,U,U,_,U,?_⟩⟩;have e1:C=true:=j.mpr L;subst e1;refine aP ⟨_,U,v,_,U,O.same s4,by omega,by omega,l,λb2 H5 s5 p=>⟨_,U,?_⟩⟩;have e2:b2=true:=p.mpr L;subst e2;refine aP (iD _ _ (ab λsv jj=>?_));have W:=s4.trans s5;have p5:=p3.same W;have tv5:=O.same W;refine⟨_,U,by omega,by omega,?_⟩;refine aV.by (bo (lo:=0) (n:=((6:Int)).toNat)) (λi σ R=>(∃ m' N,PM K R s a n3 m' N/\N<=30000+60*?J)/\BD K R v (.tuple [ca,cb,.tuple S])/\∃ J I M,σ=[some (.ref a),some (.ref s),J,some v,I,M]) ⟨⟨_,_,p5,by omega⟩,tv5,_,_,_,U⟩ (λ_ _ _ _ _=>trivial) ?_ ?_
   · rintro i u σ R hu ⟨⟨mi,ki,B,Ke⟩,tvi,J,I,M,rfl⟩;have hi:i<6:=by have:=(gES.mp hu).1;rwa [bB] at this
     rw[aL];refine ab λFp Iy=>?_;refine⟨_,U,_,U,_,U,B.pick ?A ?G λr H6 hr6 x6 p6=>⟨_,_,U,U,?_⟩⟩;have y:=tvi.kp (B.kp p6 x6);refine⟨4+r,by omega,s,a,n3,_,_,v,_,U,p6,by omega,y,by omega,λv7 d7 m7 k7 H7 x7 p7 IO tv7 bn=>Iy _ _ (ab λHB Ik=>?_)⟩;obtain⟨w1,w2⟩:=bn.size;have w3:=bn.opens;have D:∀ (b c:PyData) (g:PDs),d7=.tuple [b,c,.tuple g]->g.length<60:=λb c g e=>by have:=w3 b c g e;omega
     refine⟨_,U,v7,_,U,tv7,by omega,by omega,D,λC H8 s8 j=>Ik _ _ ?_⟩;refine⟨_,U,.bl C,.bool C,_,U,.bl _,wW,T.kit,_,U,aP ?_⟩;refine⟨_,U,_,U,v7,_,U,tv7.same s8,by omega,by omega,D,λb2 H9 s9 p=>?_⟩;obtain rfl:=kS j p;have s89:=s8.trans s9;refine⟨U,_,U,pJ ?B ⟨⟨m7,k7,p7.same s89,by omega⟩,(y.kp (p6.kp p7 x7)).same s89,_,_,_,U⟩⟩
   rintro σ H6 ⟨⟨m6,k6,p6,hk6⟩,y,J,I,M,rfl⟩;refine jj _ _ ?_;refine⟨_,U,v,_,U,y,by omega,by omega,l,λC H7 s7 j=>⟨_,_,U,U,?_⟩⟩;have e1:C=true:=j.mpr L;subst e1;exact q _
end
end K13
set_option maxHeartbeats 4000000
namespace K13
open PySem L2 PySem.Spec PyProof.Rows PySem.SeqAt
def Ac (w:World) (es:List DictEntry) (vs:List (Key×Value)):Prop:=Paired (λ(e:DictEntry) (kv:Key×Value)=>∃ x t,kv.1=.inr x/\e.key=.str x t/\e.hash=hashStr w x/\e.val=kv.2) es vs
def r8 (h:Ac w es vs):Pairs (aI P w) es vs:=by
 induction (show Paired _ es vs from h) with
 | nil=>exact .nil
 | cons z r c =>
  obtain⟨x,t,b,a,e,d⟩:=z;exact .cons (by rw[b,a];exact gO P w x t) d (c r)
def uG (h:Ac w es vs):∀ e∈es,∃ k,(aI P w).is k e.key=true/\e.hash=(aI P w).hash k:=by
 induction (show Paired _ es vs from h) with
 | nil=>exact λe h=>by cases h
 | cons z r c =>
  intro e h;obtain⟨x,t,d,a,b,f⟩:=z
  rcases List.mem_cons.mp h with rfl | h
  · exact⟨.inr x,by rw[a];exact gO P w x t,b⟩
  · exact c r e h
def isd {P:Program} {w:World} {es:List DictEntry} {vs:List (Key×Value)} {ep:Nat} (h:Ac w es vs) (nd:(vs.map (·.1)).Nodup):Obj.IsDictOf (aI P w) {cls:=.type "dict",dict:=none,data:=.dict es.toArray ep,slots:=#[]} vs :=
 ⟨es.toArray,ep,⟨U,U,U⟩,U,λe he=>uG h e (List.mem_toArray.mp he),r8 h,nd⟩
def Ae (K:Fg):List Row->Prop
  | []=>True
  | e::r=>K.lookup e.2.2.1=some (FT e.2.2.2)/\Ae K r
def kvE (es:List Row):List (Key×V):=es.map λe=>(.inr e.1,.ref e.2.2.1)
def vaE (es:List Row):List (Key×Value):=es.map λe=>(.inr e.1,.ref e.2.2.1)
def yS (h:oy u=some x):bh x u:=by
 cases u <;> first
  | (cases h;rfl)
  | (cases h;exact⟨_,U⟩)
  | cases h
def oE:∀ {vs:List Value} {xs:List V},vs.map oy=xs.map some->b7 xs vs
 | [],[],_=>.nil
 | [],x::xs,h=>by cases h
 | v::vs,[],h=>by cases h
 | v::vs,x::xs,h=>by
  rw[List.map_cons,List.map_cons,List.cons.injEq] at h;exact .cons (yS h.1) (oE h.2)
def kz {K:Fg} (h:K.lookup r=some (FT b)) (e:b.map oy=xs.map some) (f:xs.length<=50):∀ H,SqT K H r xs:=λH=>by
 have a:=oE e;have d:=a.length;have c:50<=sizeLine:=by decide
 exact .inr ⟨_,b.toArray,0,h,U,U,by rw[List.size_toArray];omega,a⟩
def vQ {K:Fg}:∀ {a:List Row},Ae K a->(a.map (·.1)).Nodup->∀ k g,(k,g)∈(a.map λe=>(e.1,e.2.2.2.map oy))->∃ (r:Addr) (l:List Value),bd (kvE a) (.inr k)=some (.ref r)/\l.map oy=g/\K.lookup r=some (FT l):=by
 intro a
 induction a with
 | nil=>exact λ_ _ k f h=>absurd h nMN
 | cons e r t =>
  intro d p k f h;obtain⟨m,n⟩:=List.nodup_cons.mp p
  rcases List.mem_cons.mp h with h | h
  · cases h;refine⟨e.2.2.1,e.2.2.2,?_,U,d.1⟩;show (List.find? _ ((_,_)::_)).map _=_;rw[List.find?_cons_of_pos ?B];rfl
  · obtain⟨s,l,j,i,o⟩:=t d.2 n k f h;refine⟨s,l,?_,i,o⟩;have y:e.1≠k:=λc=>m (by
      obtain⟨u,b,q⟩:=List.mem_map.mp h;exact List.mem_map.mpr ⟨u,b,(congrArg Prod.fst q).trans c.symm⟩)
    show (List.find? _ ((_,_)::_)).map _=_;rw[List.find?_cons_of_neg (by simpa using y)];exact j
def vP (h:k∉es.map (·.1)):bd (kvE es) (.inr k)=none:=by
 induction es with
 | nil=>rfl
 | cons e r a =>
  have ne:e.1≠k:=λc=>h (by grind);show (List.find? _ ((_,_)::_)).map _=_;rw[List.find?_cons_of_neg (by simpa using ne)];exact a λz=>h (mCM _ z)
def oI {K:Fg} (a:List Row) (f:K.lookup o=some (FD w.params (a.map u5) ep)) (j:(o==sysModules)=false) (g:(a.map (·.1)).Nodup):jW P w K o (kvE a):=by
 have k:∀ l:List Row,Ac w ((l.map u5).map λx=>(⟨PyData.keyHash w.params x.1,.str x.1 x.2.1,x.2.2⟩)) (vaE l):=by
  intro l
  induction l with
  | nil=>exact .nil
  | cons e r d=>exact .cons ⟨e.1,e.2.1,U,U,U,U⟩ d
 have m:∀ l:List Row,KV (kvE l) (vaE l):=by
  intro l
  induction l with
  | nil=>exact .nil
  | cons e r d=>exact .cons ⟨U,U⟩ d
 have i:((vaE a).map (·.1)).Nodup:=by
  unfold vaE;rw[List.map_map];show (a.map ((Sum.inr:Str->Key)∘λe=>e.1)).Nodup;rw[<- List.map_map];refine List.pairwise_map.mpr (g.imp ?_);exact λh c=>h (Sum.inr.inj c)
 exact⟨_,vaE a,f,isd (k a) i,m a,j⟩
def qh (es:List Row):List (Str×List (Option V)):=es.map λe=>(e.1,e.2.2.2.map oy)
def Cf {P:Program} {w:World} {K:Fg} {a:SOV} {aW aH aS aO:Addr} {pS pO:Nat} {vW vH:List Value} {t1 t2 t3 t4 t5 t6 t7:Tok} (b c:List Row)
 (q:a "LONGEST_NAME"=some (.int 8 t1)) (s:a "LEAST_NUMBER"=some (.int (-32768) t2)) (t:a "GREATEST_NUMBER"=some (.int 32767 t3)) (u:a "MOST_PARAMS"=some (.int 4 t4)) (v:a "MOST_FIELDS"=some (.int 4 t5)) (x:a "MOST_FORMS"=some (.int 40 t6)) (y:a "NO_BOUND"=some (.int (-1) t7))
 (A:a "KEPT_WORDS"=some (.ref aW)) (B:K.lookup aW=some (FT vW)) (C:vW.map oy=(kept.map V.str).map some) (D:a "HEADS"=some (.ref aH)) (E:K.lookup aH=some (FT vH)) (F:vH.map oy=[V.str "function",V.str "deep",V.str "open"].map some)
 (G:a "SLOTS"=some (.ref aS)) (H:K.lookup aS=some (FD w.params (b.map u5) pS)) (I:(aS==sysModules)=false) (J:Ae K b) (i:qh b=tbl.map λp=>(p.1,(p.2.map V.str).map some)) (j:(b.map (·.1)).Nodup)
 (L:a "OPS"=some (.ref aO)) (M:K.lookup aO=some (FD w.params (c.map u5) pO)) (N:(aO==sysModules)=false) (O:Ae K c) (n:qh c=opT.map λp=>(p.1,[V.int p.2.1,V.int p.2.2].map some)) (o:(c.map (·.1)).Nodup):Glb P w K a:=by
 refine⟨⟨_,q⟩,⟨_,s⟩,⟨_,t⟩,⟨_,u⟩,⟨_,v⟩,⟨_,x⟩,⟨_,y⟩,⟨_,A,kz B C ?G⟩,⟨_,D,kz E F ?G⟩,⟨aS,kvE b,G,oI b H I j,λk Q h=>?_,λk h=>vP λz=>h ?_⟩,⟨aO,kvE c,L,oI c M N o,λk l m h=>?_,λk h=>vP λz=>h ?_⟩⟩
 · obtain⟨r,l,e,f,g⟩:=vQ J j k ((Q.map V.str).map some) (by
     show _∈qh b;rw[i];exact List.mem_map.mpr ⟨_,h,rfl⟩)
   refine⟨r,e,kz g f ?_⟩;have:∀ p∈tbl,p.2.length<=50:=by decide
   rw[lMp];exact this _ h
 · have:b.map (·.1)=(qh b).map (·.1):=by unfold qh;rw[List.map_map];rfl
   rw[this,i,List.map_map] at z;exact z
 · obtain⟨r,R,e,f,g⟩:=vQ O o k ([V.int l,V.int m].map some) (by
     show _∈qh c;rw[n];exact List.mem_map.mpr ⟨_,h,rfl⟩)
   exact⟨r,e,kz g f (show 2<=50 by decide)⟩
 · have:c.map (·.1)=(qh c).map (·.1):=by unfold qh;rw[List.map_map];rfl
   rw[this,n,List.map_map] at z;exact z
def b9 {K:Fg} {e:SOV} {st:Stmt} {kV d i g m:Value} (X:K.In h) (G:h.Ns mainGlobals e)
 (l:K.lookup f=some ⟨o,n,.func (PySem.W.fnOf x x (du st) (bW st) (ad st) .none kV d i an g m),j⟩) (a:PySem.W.nsIn K mainGlobals x=some (some (.ref f)):=by right)
 (c:PySem.W.codeIn K g x=true:=by right) (k:PySem.W.keepIn K (.ref f)=true:=by right):Def K e x st:=⟨f,_,wZ l c k,PySem.W.mg_of X G a⟩
def Ct {l:PySem.W.OpenLaw} {K:Fg} {b:SOV} (X:K.In h) (G:h.Ns mainGlobals b) (Kj:b "law"=some (.ref fa)) (C:Glb l.prog w K b) (T:Blt K b)
 (d5:Def K b "is_name" (top 5)) (Y:Def K b "fits_count" (top 13)) (J:Def K b "reached" (top 15)) (d16:Def K b "ring_number" (top 16)) (o:Def K b "is_whole" (top 18)) (x:Def K b "is_whole_within" (top 19)) (d20:Def K b "is_tuple_of" (top 20)) (d23:Def K b "fits_slot" (top 23)) (r:Def K b "is_expression" (top 24)) (Q:Def K b "is_function" (top 25)) (I:Def K b "is_open" (top 26)) (O:Def K b "are_opens" (top 27)) (R:Def K b "is_frame" (top 28)) (d30:Def K b "children_of" (top 30)) (N:Def K b "bound_by" (top 31)) (d32:Def K b "walked" (top 32)) (p:Def K b "scoped_children" (top 33)) (d34:Def K b "with_entries" (top 34)) (L:Def K b "has_place" (top 35)) (M:Def K b "can_be_called" (top 36)) (d37:Def K b "is_right_alone" (top 37)) (d38:Def K b "seen_within" (top 38)) (d39:Def K b "is_right_body" (top 39)) (d40:Def K b "plain_calls" (top 40)) (d41:Def K b "right_core" (top 41)) (d43:Def K b "_law_draw" (top 43)) (d44:Def K b "_law_pick" (top 44)) (d45:Def K b "_law_many" (top 45)) (B:Def K b "_law_e" (top 46)) (t:Def K b "_law_binder" (top 47)) (d48:Def K b "_law_wide" (top 48)) (A:Def K b "_law_core" (top 49)) (Z:Def K b "_law_bent" (top 50)) (d51:Def K b "_law_whole" (top 51)) (d52:Def K b "_law_is_word" (top 52)) (y:Def K b "_law_face" (top 53)) (d54:Def K b "_law_all" (top 54)) (q:Def K b "_law_fits" (top 55)) (d56:Def K b "_law_fits_binder" (top 56)) (F:Def K b "_law_fits_many" (top 57)) (d58:Def K b "_law_due" (top 58)) (E:Def K b "_law_callers" (top 59))
 {oc kV k pm S ct:Value} (a1:PySem.W.nsIn K mainGlobals "law"=some (some (.ref fl))) (l1:K.lookup fl=some ⟨oc,od,.func (PySem.W.fnOf "law" "law" (du nq) (bW nq) (ad nq) .none kV k pm an S ct),osl⟩) (e1:PySem.W.codeIn K S "law"=true) (k1:PySem.W.keepIn K (.ref fl)=true):
 ∃ fd:FuncData,(∀ (s:Shared) (v:Value),BindsTo s fd ⟨[v],[]⟩ [("_law_script",v)])/\∀ a:Heap,K.In a->a.Ns mainGlobals b->L2.ib l.prog w K b a CX0 124 fa fd ["_law_script"] (rM K):=by
 cases Kj.symm.trans (PySem.W.mg_of X G a1);have FL:=wZ l1 e1 k1;refine⟨PySem.W.fnOf "law" "law" (du nq) (bW nq) (ad nq) .none kV k pm an S ct,λs v=>.of_eq U,λa _ _=>?_⟩;have i:=zk (base:=a) d5 T C;have e:=Eg (P:=l.prog) (w:=w) (base:=a) o T;have f:=Ec x T e;have d:=Ei (P:=l.prog) (w:=w) (base:=a) d20 T;have D:=EG R T C d (EE Q T C d f) f (EU O T (Ev I T d e i));have n:=EN (P:=l.prog) (w:=w) (base:=a) d30 T C;have j:=ET (P:=l.prog) (w:=w) (base:=a) N T;have u:=Ep d39 T (EJ r T C (EF d23 T C e f i)) (Es d37 T C (EH Y C) (ED L T) (EO M)) j (Ek p T n) (Ej d38 T j (Eh d34 T));have z:=Eo d41 D u (Eu d40 T (Ee d32 n)) (El d16 T (Em J));have c:=Et d44 T (zm (P:=l.prog) (w:=w) (base:=a) d43 T);have m:=Ex (P:=l.prog) (w:=w) (base:=a) d51 T;have g:=EA (P:=l.prog) (w:=w) (base:=a) d52 T;have H:=EL d58 T (EI y T m g) (BR d54 q d56 F T m g 40);exact BU FL T z H (EQ E T c) (EM A T c (EK B d45 t d48 T c)) (ER Z T c) c
def FX {l:PySem.W.OpenLaw} {K:Params->Fg} (k:l.most=some 63) (g:d.params.defaults=[])
 (n:∀ (w:World) (h:Heap),YP w h->(K w.params).In h)
 (F:∀ (w:World) (e:SOV) (j:Addr) (h:Heap),(K w.params).In h->h.Ns mainGlobals e->e d.name=some (.ref j) ->
 ∃ i:FuncData,(∀ (s:Shared) (u:Value),BindsTo s i ⟨[u],[]⟩ [("_law_script",u)])/\∀ b:Heap,(K w.params).In b->b.Ns mainGlobals e->L2.ib l.prog w (K w.params) e b CX0 124 j i ["_law_script"] (rM (K w.params))):
 PySem.W.WalkO q loose XP YP l.row.toRowW d [] (λf r=>PySem.call f r) :=
 L2.rD k ?G g ⟨U,by decide,by decide,U⟩ n F (λ_ _ a o p _ m=>⟨a,o,U,m,p,λ_=>rfl⟩) λ_ _ _ _ _ z=>z
def lkF {K:Fg} (x:Str) (st:Stmt) (m:Value) (c:Nat) (h:K.lookup f=some (FF x x st m c):=by right):K.lookup f=some ⟨.type "function",none,.func (PySem.W.fnOf x x (du st) (bW st) (ad st) .none .none .none m none (.ref c) .none),#[]⟩:=h
def dm {K:Fg} {b:SOV} (X:K.In h) (G:h.Ns mainGlobals b) (f:Addr) (x:Str) (i:Nat) (m:Value) (d:K.lookup f=some (FF x x (top i) m (f-1)):=by right) (a:PySem.W.nsIn K mainGlobals x=some (some (.ref f)):=by right) (c:PySem.W.codeIn K (.ref (f-1)) x=true:=by right) (k:PySem.W.keepIn K (.ref f)=true:=by right):Def K b x (top i):=b9 X G (lkF x (top i) m (f-1) d) a c k
open PySem PySem.W PyProof.Rows
set_option maxHeartbeats 0 in
def fin:PySem.Challenge.rw_turnsame_k13_right_cores.Holds:=by
 refine preH λd hdn KB=>FX (l:=PySem.Challenge.rw_turnsame_k13_right_cores) rfl KB (λw h Y=>PySem.W.kIn_of Y) ?F
 case F =>
  intro w mg fa h X G hmg;rw[hdn] at hmg;have HX:∀ {x:Str},PySem.W.nsIn (KF w.params) mainGlobals x=some none->mg x=none:=λe=>PySem.W.mg_none_of X G e;have mo:∀ {x:Str} {v:Value},PySem.W.nsIn (KF w.params) mainGlobals x=some (some v)->mg x=some v:=λz=>PySem.W.mg_of X G z;refine Ct X G hmg (Cf (aW:=15) (aH:=21) (aS:=75) (aO:=22) (pS:=17) (pO:=10) (t1:=217) (t2:=220) (t3:=222) (t4:=238) (t5:=240) (t6:=236) (t7:=243) (vW:=[.str "record" 189,.str "function" 190,.str "deep" 191,.str "open" 192,.str "let" 193,.str "var" 194,.str "set" 195,.str "do" 196,.str "if" 197,.str "while" 198,.str "each" 199,.str "say" 200,.str "fault" 201,.str "add" 202,.str "sub" 203,.str "mul" 204,.str "div" 205,.str "less" 206,.str "same" 207,.str "at" 208,.str "not" 209,.str "size" 210,.str "row" 211,.str "new" 212,.str "get" 213,.str "fun" 214,.str "apply" 215]) (vH:=[.str "function" 232,.str "deep" 233,.str "open" 234]) SL OL (mo (by right)) (mo (by right)) (mo (by right)) (mo (by right)) (mo (by right)) (mo (by right)) (mo (by right))
      (mo (by right)) (by right) (by right) (mo (by right)) (by right) (by right)
      (mo (by right)) (by right) ?G (by repeat' (first | exact trivial | refine⟨by right,?_⟩)) (by right) (by left)
      (mo (by right)) (by right) ?G (by repeat' (first | exact trivial | refine⟨by right,?_⟩)) (by right) (by left)) ⟨HX (by right),HX (by right),HX (by right),HX (by right),HX (by right),HX (by right),HX (by right),HX (by right),HX (by right),HX (by right),HX (by right),HX (by right),HX (by right),HX (by right),⟨by right⟩⟩
   (dm X G 20 "is_name" 5 M0)
   (dm X G 39 "fits_count" 13 M1)
   (dm X G 46 "reached" 15 M2)
   (dm X G 53 "ring_number" 16 M2)
   (dm X G 60 "is_whole" 18 M3)
   (dm X G 67 "is_whole_within" 19 M3)
   (dm X G 74 "is_tuple_of" 20 M3)
   (dm X G 97 "fits_slot" 23 M4)
   (dm X G 102 "is_expression" 24 M4)
   (dm X G 109 "is_function" 25 M4)
   (dm X G 116 "is_open" 26 M4)
   (dm X G 121 "are_opens" 27 M4)
   (dm X G 126 "is_frame" 28 M4)
   (dm X G 133 "children_of" 30 M5)
   (dm X G 140 "bound_by" 31 M5)
   (dm X G 147 "walked" 32 M5)
   (dm X G 152 "scoped_children" 33 M5)
   (dm X G 159 "with_entries" 34 M5)
   (dm X G 166 "has_place" 35 M5)
   (dm X G 173 "can_be_called" 36 M5)
   (dm X G 180 "is_right_alone" 37 M5)
   (dm X G 185 "seen_within" 38 M5)
   (dm X G 190 "is_right_body" 39 M5)
   (dm X G 195 "plain_calls" 40 M5)
   (dm X G 202 "right_core" 41 M5)
   (dm X G 209 "_law_draw" 43 M6)
   (dm X G 216 "_law_pick" 44 M6)
   (dm X G 223 "_law_many" 45 M6)
   (dm X G 228 "_law_e" 46 M6)
   (dm X G 233 "_law_binder" 47 M6)
   (dm X G 238 "_law_wide" 48 M6)
   (dm X G 243 "_law_core" 49 M6)
   (dm X G 250 "_law_bent" 50 M6)
   (dm X G 257 "_law_whole" 51 M6)
   (dm X G 262 "_law_is_word" 52 M6)
   (dm X G 267 "_law_face" 53 M6)
   (dm X G 274 "_law_all" 54 M6)
   (dm X G 281 "_law_fits" 55 M6)
   (dm X G 288 "_law_fits_binder" 56 M6)
   (dm X G 295 "_law_fits_many" 57 M6)
   (dm X G 300 "_law_due" 58 M6)
   (dm X G 305 "_law_callers" 59 M6)
   (fl:=312) (by right) (lkF "law" (top 60) M6 311) (by right) (by right)
end K13
theorem PySem.Challenge.cw_turnsame_k13_right_cores_holds : PySem.Challenge.rw_turnsame_k13_right_cores.Holds := by
 exact K13.fin
