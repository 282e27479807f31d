import PyProof.Rows.All
import Wide.All
import OpenK.AllK
import Wide.FinOn
import Lean
import PyProof.EqAt
import PyProof.EqKinds
import PyProof.TupleCall
import PySem.Challenge.RW_sumcraft_k14_rows_refused
set_option Elab.async false
set_option linter.all false
set_option maxRecDepth 100000
set_option maxHeartbeats 4000000
set_option compiler.extract_closed false
set_option bootstrap.genMatcherCode false
local macro_rules | `(tactic| omega) => `(tactic| first | lia | omega +splitDisjunctions)
noncomputable section
namespace My
open PySem PySem.Spec PyProof.Rows PySem.W
noncomputable def top (i:Nat):Stmt:=PySem.Challenge.pw_sumcraft_k14_rows_refused.main.body.getD i (.Pass ⟨0,0,0,0⟩)
def inCls (s:Stmt) (j:Nat):Stmt:=match s with
 | .ClassDef _ _ _ b _ _ _ _ _ _ _=>b.getD j (.Pass ⟨0,0,0,0⟩)
 | _=>.Pass ⟨0,0,0,0⟩
abbrev s_trimmed:Stmt:=top 13
abbrev s_shifted:Stmt:=top 14
abbrev s_poly_value:Stmt:=top 15
abbrev s_divisor:Stmt:=top 20
abbrev s_ratio:Stmt:=top 21
abbrev s_clear:Stmt:=top 24
abbrev s_reach:Stmt:=top 25
abbrev s_order_of:Stmt:=top 27
abbrev s_need_of:Stmt:=top 28
abbrev s_weighted:Stmt:=top 29
abbrev s_parted:Stmt:=top 30
abbrev s_total:Stmt:=top 31
abbrev s_rule_sum:Stmt:=top 32
abbrev s_keeps:Stmt:=top 33
abbrev s_check_first:Stmt:=top 34
abbrev s_next_value:Stmt:=top 35
abbrev s_carried_on:Stmt:=top 36
abbrev s__law_cell_at:Stmt:=top 41
abbrev s__law_number:Stmt:=top 42
abbrev s__law_cut:Stmt:=top 43
abbrev s__law_product:Stmt:=top 44
abbrev s__law_value:Stmt:=top 45
abbrev s__law_divisor:Stmt:=top 46
abbrev s__law_lowest:Stmt:=top 47
abbrev s__law_fraction:Stmt:=top 48
abbrev s__law_weighed:Stmt:=top 49
abbrev s__law_last:Stmt:=top 50
abbrev s__law_parts:Stmt:=top 51
abbrev s__law_roots:Stmt:=top 52
abbrev s__law_rule:Stmt:=top 53
abbrev s__law_need:Stmt:=top 54
abbrev s__law_values:Stmt:=top 55
abbrev s__law_spoiled_first:Stmt:=top 56
abbrev s__law_spoiled_rule:Stmt:=top 57
abbrev s__law_due:Stmt:=top 58
abbrev s__law_caught:Stmt:=top 59
abbrev s__law_place:Stmt:=top 60
abbrev s__law_is:Stmt:=top 61
abbrev s__law_taken:Stmt:=top 62
abbrev s_law:Stmt:=top 63
abbrev s_NotKept___init__:Stmt:=inCls (top 5) 0
abbrev s_Row___init__:Stmt:=inCls (top 39) 0
abbrev s_Row_at:Stmt:=inCls (top 39) 1
abbrev s_Row_told:Stmt:=inCls (top 39) 2
noncomputable def kE (P:Params) (x:String) (n:Nat) (v:Value):DictEntry:=⟨PyData.keyHash P (Str.ofString x),.str (Str.ofString x) n,v⟩
noncomputable def kM (x q:Str) (s:Stmt) (m:Str) (k c:Nat):Obj:=match s with
 | .FunctionDef _ a b _ _ _ sc _ _ _=>⟨.type "function",none,.func (fnOf x q a b sc .none .none .none (.str m k) none (.ref c) .none),#[]⟩
 | _=>⟨.none,none,.plain,#[]⟩
def kN (x q:Str) (s:Stmt):Obj:=match s with
 | .FunctionDef _ a b _ _ _ sc _ _ _=>⟨.none,none,.func { name:=x,qualname:=q,params:=a,body:=.stmts b,scope:=sc,globals:=0,closure:=[],defaults:=.none,kwdefaults:=.none },#[]⟩
 | _=>⟨.none,none,.plain,#[]⟩
noncomputable def oT (x:Array Value):Obj:={ cls:=.type "tuple",data:=Data.seq x }
noncomputable def oF (x:Array Value):Obj:={ cls:=.none,data:=Data.fields x }
noncomputable def oK (x:Array Value):Obj:={ cls:=.type "code",data:=Data.fields x }
noncomputable def oB (x:Array Value):Obj:={ cls:=.type "builtin_function_or_method",data:=Data.fields x }
def cp (n:Nat):Value:=.str "/claim/cut.py" n
noncomputable def frC (x q:Str) (n L a f r:Nat) (b:Bool) (c k:Nat):Obj:=oK #[.str x n,.str q (n+1),cp (n+2),.int L 0,.int a 0,.int 0 0,.int 0 0,.int f 0,.ref r,.bool b,.int c 0,.ref (r+1),.none,.ref (r+2),.ref (r+3),.ref (r+4),.int k 0,.int L 0,cp (k+1)]
noncomputable def frT:Nat->List String->List Value
 | _,[]=>[]
 | n,x :: r=>.str (Str.ofString x) n :: frT (n+1) r
noncomputable def frS (n:Nat) (l:List String):Obj:=oT ⟨frT n l⟩
noncomputable def frL (l:List (Nat×Nat)):Obj:=oF ⟨l.flatMap fun p=>[.int p.1 0,.int 0 0,.ref p.2]⟩
noncomputable def frD (e:DictEntry) (l:List DictEntry) (n:Nat):Obj:={ cls:=.type "dict",data:=Data.dict ⟨e :: l⟩ n }
def ob11:Obj:=oT #[]
def ob12:Obj:=oF #[]
def ob13:Obj:=oK #[.str "<module>" 182,.str "<module>" 183,cp 184,.int 1 0,.int 0 0,.int 0 0,.int 0 0,.int 0 0,.ref 11,.bool false,.int 181 0,.ref 12,.none,.none,.none,.none,.int 185 0,.int 1 0,cp 186]
def ob14:Obj:={ cls:=.type "frame",slots:=#[some (.ref 13),some (.ref 3),some (.ref 3),none,some (.str "__main__" 164),none,some (.ref 0)] }
noncomputable def frM0 (P:Params):List DictEntry:=[kE P "__doc__" 166 (.none),kE P "__package__" 167 (.none),kE P "__loader__" 168 (.builtin "__main__.__loader__#opaque"),kE P "__spec__" 169 (.none),kE P "__annotations__" 170 (.ref 6),kE P "__builtins__" 171 (.ref 4),kE P "__file__" 173 (cp 172),kE P "__cached__" 174 (.none),kE P "SumError" 206 (.ref 24),kE P "NoNumber" 222 (.ref 37),kE P "NoRule" 238 (.ref 49),kE P "TooFew" 254 (.ref 61),kE P "NotKept" 279 (.ref 80),kE P "TooGreat" 295 (.ref 92)]
noncomputable def ob3 (P:Params):Obj:=frD (kE P "__name__" 165 (.str "sumcraft.errors" 187)) (frM0 P) 15
def ob12':Obj:=frL [(2,20),(4,33),(6,45),(8,57),(10,69),(15,88)]
def ob15:Obj:=oT #[.type "ValueError"]
def ob16:Obj:=oB #[.builtin "type.__prepare__",.type "type"]
def ob17 (P:Params):Obj:={ cls:=.type "dict",data:=Data.dict #[kE P "__module__" 196 (.str "sumcraft.errors" 187),kE P "__qualname__" 198 (.str "SumError" 197),kE P "__firstlineno__" 200 (.int 2 199),kE P "__static_attributes__" 201 (.ref 22)] 4 }
def ob20:Obj:=oK #[.str "SumError" 191,.str "SumError" 192,cp 193,.int 2 0,.int 0 0,.int 0 0,.int 0 0,.int 0 0,.ref 18,.bool false,.int 181 0,.ref 19,.none,.none,.none,.none,.int 194 0,.int 2 0,cp 195]
def ob21:Obj:={ cls:=.type "frame",slots:=#[some (.ref 20),some (.ref 3),some (.ref 17),none,some (.str "sumcraft.errors" 187),none,some (.ref 0)] }
def ob23 (P:Params):Obj:={ cls:=.type "dict",data:=Data.dict #[kE P "__module__" 196 (.str "sumcraft.errors" 187),kE P "__firstlineno__" 200 (.int 2 199),kE P "__static_attributes__" 201 (.ref 22),kE P "__weakref__" 203 (.ref 25),kE P "__doc__" 204 (.none)] 3 }
def ob24:Obj:={ cls:=.type "type",data:=Data.cls { name := "SumError",bases:=[.type "ValueError"],mro:=[.ref 24,.type "ValueError",.type "Exception",.type "BaseException",.type "object"],ns:=23,qualname := "SumError",subclasses:=[.ref 37,.ref 49,.ref 61,.ref 80,.ref 92] },slots:=#[some (.ref 15),none,some (.str "SumError" 189),some (.str "SumError" 197),some (.builtin "ValueError.__new__"),some (.bool true)] }
def ob25:Obj:={ cls:=.type "getset_descriptor",data:=Data.fields #[.str "__weakref__" 202,.ref 24,.builtin "ExceptionGroup.__weakref__",.none] }
def ob26:Obj:={ cls:=.type "super",data:=Data.fields #[.ref 24,.ref 24,.ref 24] }
def ob27:Obj:=oB #[.builtin "object.__init_subclass__",.ref 24]
def ob28:Obj:=oT #[.ref 24]
def ob30 (P:Params):Obj:={ cls:=.type "dict",data:=Data.dict #[kE P "__module__" 214 (.str "sumcraft.errors" 187),kE P "__qualname__" 216 (.str "NoNumber" 215),kE P "__firstlineno__" 218 (.int 4 217),kE P "__static_attributes__" 219 (.ref 35)] 4 }
def ob33:Obj:=oK #[.str "NoNumber" 209,.str "NoNumber" 210,cp 211,.int 4 0,.int 0 0,.int 0 0,.int 0 0,.int 0 0,.ref 31,.bool false,.int 181 0,.ref 32,.none,.none,.none,.none,.int 212 0,.int 4 0,cp 213]
def ob34:Obj:={ cls:=.type "frame",slots:=#[some (.ref 33),some (.ref 3),some (.ref 30),none,some (.str "sumcraft.errors" 187),none,some (.ref 0)] }
def ob36 (P:Params):Obj:={ cls:=.type "dict",data:=Data.dict #[kE P "__module__" 214 (.str "sumcraft.errors" 187),kE P "__firstlineno__" 218 (.int 4 217),kE P "__static_attributes__" 219 (.ref 35),kE P "__doc__" 220 (.none)] 2 }
def ob37:Obj:={ cls:=.type "type",data:=Data.cls { name := "NoNumber",bases:=[.ref 24],mro:=[.ref 37,.ref 24,.type "ValueError",.type "Exception",.type "BaseException",.type "object"],ns:=36,qualname := "NoNumber" },slots:=#[some (.ref 28),none,some (.str "NoNumber" 207),some (.str "NoNumber" 215),some (.builtin "ValueError.__new__"),some (.bool true)] }
def ob38:Obj:={ cls:=.type "super",data:=Data.fields #[.ref 37,.ref 37,.ref 37] }
def ob39:Obj:=oB #[.builtin "object.__init_subclass__",.ref 37]
def ob42 (P:Params):Obj:={ cls:=.type "dict",data:=Data.dict #[kE P "__module__" 230 (.str "sumcraft.errors" 187),kE P "__qualname__" 232 (.str "NoRule" 231),kE P "__firstlineno__" 234 (.int 6 233),kE P "__static_attributes__" 235 (.ref 47)] 4 }
def ob45:Obj:=oK #[.str "NoRule" 225,.str "NoRule" 226,cp 227,.int 6 0,.int 0 0,.int 0 0,.int 0 0,.int 0 0,.ref 43,.bool false,.int 181 0,.ref 44,.none,.none,.none,.none,.int 228 0,.int 6 0,cp 229]
def ob46:Obj:={ cls:=.type "frame",slots:=#[some (.ref 45),some (.ref 3),some (.ref 42),none,some (.str "sumcraft.errors" 187),none,some (.ref 0)] }
def ob48 (P:Params):Obj:={ cls:=.type "dict",data:=Data.dict #[kE P "__module__" 230 (.str "sumcraft.errors" 187),kE P "__firstlineno__" 234 (.int 6 233),kE P "__static_attributes__" 235 (.ref 47),kE P "__doc__" 236 (.none)] 2 }
def ob49:Obj:={ cls:=.type "type",data:=Data.cls { name := "NoRule",bases:=[.ref 24],mro:=[.ref 49,.ref 24,.type "ValueError",.type "Exception",.type "BaseException",.type "object"],ns:=48,qualname := "NoRule" },slots:=#[some (.ref 40),none,some (.str "NoRule" 223),some (.str "NoRule" 231),some (.builtin "ValueError.__new__"),some (.bool true)] }
def ob50:Obj:={ cls:=.type "super",data:=Data.fields #[.ref 49,.ref 49,.ref 49] }
def ob51:Obj:=oB #[.builtin "object.__init_subclass__",.ref 49]
def ob54 (P:Params):Obj:={ cls:=.type "dict",data:=Data.dict #[kE P "__module__" 246 (.str "sumcraft.errors" 187),kE P "__qualname__" 248 (.str "TooFew" 247),kE P "__firstlineno__" 250 (.int 8 249),kE P "__static_attributes__" 251 (.ref 59)] 4 }
def ob57:Obj:=oK #[.str "TooFew" 241,.str "TooFew" 242,cp 243,.int 8 0,.int 0 0,.int 0 0,.int 0 0,.int 0 0,.ref 55,.bool false,.int 181 0,.ref 56,.none,.none,.none,.none,.int 244 0,.int 8 0,cp 245]
def ob58:Obj:={ cls:=.type "frame",slots:=#[some (.ref 57),some (.ref 3),some (.ref 54),none,some (.str "sumcraft.errors" 187),none,some (.ref 0)] }
def ob60 (P:Params):Obj:={ cls:=.type "dict",data:=Data.dict #[kE P "__module__" 246 (.str "sumcraft.errors" 187),kE P "__firstlineno__" 250 (.int 8 249),kE P "__static_attributes__" 251 (.ref 59),kE P "__doc__" 252 (.none)] 2 }
def ob61:Obj:={ cls:=.type "type",data:=Data.cls { name := "TooFew",bases:=[.ref 24],mro:=[.ref 61,.ref 24,.type "ValueError",.type "Exception",.type "BaseException",.type "object"],ns:=60,qualname := "TooFew" },slots:=#[some (.ref 52),none,some (.str "TooFew" 239),some (.str "TooFew" 247),some (.builtin "ValueError.__new__"),some (.bool true)] }
def ob62:Obj:={ cls:=.type "super",data:=Data.fields #[.ref 61,.ref 61,.ref 61] }
def ob63:Obj:=oB #[.builtin "object.__init_subclass__",.ref 61]
def ob66 (P:Params):Obj:={ cls:=.type "dict",data:=Data.dict #[kE P "__module__" 262 (.str "sumcraft.errors" 187),kE P "__qualname__" 264 (.str "NotKept" 263),kE P "__firstlineno__" 266 (.int 10 265),kE P "__init__" 274 (.ref 77),kE P "__static_attributes__" 276 (.ref 78)] 5 }
def ob68:Obj:=oF #[.int 12 0,.int 4 0,.ref 76]
def ob69:Obj:=oK #[.str "NotKept" 257,.str "NotKept" 258,cp 259,.int 10 0,.int 0 0,.int 0 0,.int 0 0,.int 0 0,.ref 67,.bool false,.int 181 0,.ref 68,.none,.none,.none,.none,.int 260 0,.int 10 0,cp 261]
def ob70:Obj:={ cls:=.type "frame",slots:=#[some (.ref 69),some (.ref 3),some (.ref 66),none,some (.str "sumcraft.errors" 187),none,some (.ref 0)] }
def ob73:Obj:=frS 270 ["self","place"]
def ob75:Obj:=kN "__init__" "NotKept.__init__" (inCls (top 5) 0)
def ob76:Obj:=frC "__init__" "NotKept.__init__" 267 12 2 3 71 true 181 272
def ob77:Obj:=kM "__init__" "NotKept.__init__" (inCls (top 5) 0) "sumcraft.errors" 187 76
def ob78:Obj:=oT #[.str "place" 275]
def ob79 (P:Params):Obj:={ cls:=.type "dict",data:=Data.dict #[kE P "__module__" 262 (.str "sumcraft.errors" 187),kE P "__firstlineno__" 266 (.int 10 265),kE P "__init__" 274 (.ref 77),kE P "__static_attributes__" 276 (.ref 78),kE P "__doc__" 277 (.none)] 2 }
def ob80:Obj:={ cls:=.type "type",data:=Data.cls { name := "NotKept",bases:=[.ref 24],mro:=[.ref 80,.ref 24,.type "ValueError",.type "Exception",.type "BaseException",.type "object"],ns:=79,qualname := "NotKept" },slots:=#[some (.ref 64),none,some (.str "NotKept" 255),some (.str "NotKept" 263),some (.builtin "ValueError.__new__"),some (.bool true)] }
def ob81:Obj:={ cls:=.type "super",data:=Data.fields #[.ref 80,.ref 80,.ref 80] }
def ob82:Obj:=oB #[.builtin "object.__init_subclass__",.ref 80]
def ob85 (P:Params):Obj:={ cls:=.type "dict",data:=Data.dict #[kE P "__module__" 287 (.str "sumcraft.errors" 187),kE P "__qualname__" 289 (.str "TooGreat" 288),kE P "__firstlineno__" 291 (.int 15 290),kE P "__static_attributes__" 292 (.ref 90)] 4 }
def ob88:Obj:=oK #[.str "TooGreat" 282,.str "TooGreat" 283,cp 284,.int 15 0,.int 0 0,.int 0 0,.int 0 0,.int 0 0,.ref 86,.bool false,.int 181 0,.ref 87,.none,.none,.none,.none,.int 285 0,.int 15 0,cp 286]
def ob89:Obj:={ cls:=.type "frame",slots:=#[some (.ref 88),some (.ref 3),some (.ref 85),none,some (.str "sumcraft.errors" 187),none,some (.ref 0)] }
def ob91 (P:Params):Obj:={ cls:=.type "dict",data:=Data.dict #[kE P "__module__" 287 (.str "sumcraft.errors" 187),kE P "__firstlineno__" 291 (.int 15 290),kE P "__static_attributes__" 292 (.ref 90),kE P "__doc__" 293 (.none)] 2 }
def ob92:Obj:={ cls:=.type "type",data:=Data.cls { name := "TooGreat",bases:=[.ref 24],mro:=[.ref 92,.ref 24,.type "ValueError",.type "Exception",.type "BaseException",.type "object"],ns:=91,qualname := "TooGreat" },slots:=#[some (.ref 83),none,some (.str "TooGreat" 280),some (.str "TooGreat" 288),some (.builtin "ValueError.__new__"),some (.bool true)] }
def ob93:Obj:={ cls:=.type "super",data:=Data.fields #[.ref 92,.ref 92,.ref 92] }
def ob94:Obj:=oB #[.builtin "object.__init_subclass__",.ref 92]
noncomputable def frM1 (P:Params):List DictEntry:=frM0 P++[kE P "NoPlace" 311 (.ref 104),kE P "NoTerm" 327 (.ref 116),kE P "NoEnds" 343 (.ref 128),kE P "NoLine" 359 (.ref 140),kE P "NoName" 375 (.ref 152),kE P "trimmed" 385 (.ref 161),kE P "shifted" 396 (.ref 168),kE P "poly_value" 406 (.ref 175),kE P "LONG" 410 (.int 4000 409),kE P "WINDOW" 412 (.int 300 411),kE P "shortened" 429 (.ref 182)]
noncomputable def ob3' (P:Params):Obj:=frD (kE P "__name__" 165 (.str "sumcraft.ratios" 407)) (frM1 P) 26
def ob12'':Obj:=frL [(2,20),(4,33),(6,45),(8,57),(10,69),(15,88),(17,100),(19,112),(21,124),(23,136),(25,148),(28,160),(33,167),(39,174),(47,181)]
def ob24':Obj:={ cls:=.type "type",data:=Data.cls { name := "SumError",bases:=[.type "ValueError"],mro:=[.ref 24,.type "ValueError",.type "Exception",.type "BaseException",.type "object"],ns:=23,qualname := "SumError",subclasses:=[.ref 37,.ref 49,.ref 61,.ref 80,.ref 92,.ref 104,.ref 116,.ref 128,.ref 140,.ref 152] },slots:=#[some (.ref 15),none,some (.str "SumError" 189),some (.str "SumError" 197),some (.builtin "ValueError.__new__"),some (.bool true)] }
def ob97 (P:Params):Obj:={ cls:=.type "dict",data:=Data.dict #[kE P "__module__" 303 (.str "sumcraft.errors" 187),kE P "__qualname__" 305 (.str "NoPlace" 304),kE P "__firstlineno__" 307 (.int 17 306),kE P "__static_attributes__" 308 (.ref 102)] 4 }
def ob100:Obj:=oK #[.str "NoPlace" 298,.str "NoPlace" 299,cp 300,.int 17 0,.int 0 0,.int 0 0,.int 0 0,.int 0 0,.ref 98,.bool false,.int 181 0,.ref 99,.none,.none,.none,.none,.int 301 0,.int 17 0,cp 302]
def ob101:Obj:={ cls:=.type "frame",slots:=#[some (.ref 100),some (.ref 3),some (.ref 97),none,some (.str "sumcraft.errors" 187),none,some (.ref 0)] }
def ob103 (P:Params):Obj:={ cls:=.type "dict",data:=Data.dict #[kE P "__module__" 303 (.str "sumcraft.errors" 187),kE P "__firstlineno__" 307 (.int 17 306),kE P "__static_attributes__" 308 (.ref 102),kE P "__doc__" 309 (.none)] 2 }
def ob104:Obj:={ cls:=.type "type",data:=Data.cls { name := "NoPlace",bases:=[.ref 24],mro:=[.ref 104,.ref 24,.type "ValueError",.type "Exception",.type "BaseException",.type "object"],ns:=103,qualname := "NoPlace" },slots:=#[some (.ref 95),none,some (.str "NoPlace" 296),some (.str "NoPlace" 304),some (.builtin "ValueError.__new__"),some (.bool true)] }
def ob105:Obj:={ cls:=.type "super",data:=Data.fields #[.ref 104,.ref 104,.ref 104] }
def ob106:Obj:=oB #[.builtin "object.__init_subclass__",.ref 104]
def ob109 (P:Params):Obj:={ cls:=.type "dict",data:=Data.dict #[kE P "__module__" 319 (.str "sumcraft.errors" 187),kE P "__qualname__" 321 (.str "NoTerm" 320),kE P "__firstlineno__" 323 (.int 19 322),kE P "__static_attributes__" 324 (.ref 114)] 4 }
def ob112:Obj:=oK #[.str "NoTerm" 314,.str "NoTerm" 315,cp 316,.int 19 0,.int 0 0,.int 0 0,.int 0 0,.int 0 0,.ref 110,.bool false,.int 181 0,.ref 111,.none,.none,.none,.none,.int 317 0,.int 19 0,cp 318]
def ob113:Obj:={ cls:=.type "frame",slots:=#[some (.ref 112),some (.ref 3),some (.ref 109),none,some (.str "sumcraft.errors" 187),none,some (.ref 0)] }
def ob115 (P:Params):Obj:={ cls:=.type "dict",data:=Data.dict #[kE P "__module__" 319 (.str "sumcraft.errors" 187),kE P "__firstlineno__" 323 (.int 19 322),kE P "__static_attributes__" 324 (.ref 114),kE P "__doc__" 325 (.none)] 2 }
def ob116:Obj:={ cls:=.type "type",data:=Data.cls { name := "NoTerm",bases:=[.ref 24],mro:=[.ref 116,.ref 24,.type "ValueError",.type "Exception",.type "BaseException",.type "object"],ns:=115,qualname := "NoTerm" },slots:=#[some (.ref 107),none,some (.str "NoTerm" 312),some (.str "NoTerm" 320),some (.builtin "ValueError.__new__"),some (.bool true)] }
def ob117:Obj:={ cls:=.type "super",data:=Data.fields #[.ref 116,.ref 116,.ref 116] }
def ob118:Obj:=oB #[.builtin "object.__init_subclass__",.ref 116]
def ob121 (P:Params):Obj:={ cls:=.type "dict",data:=Data.dict #[kE P "__module__" 335 (.str "sumcraft.errors" 187),kE P "__qualname__" 337 (.str "NoEnds" 336),kE P "__firstlineno__" 339 (.int 21 338),kE P "__static_attributes__" 340 (.ref 126)] 4 }
def ob124:Obj:=oK #[.str "NoEnds" 330,.str "NoEnds" 331,cp 332,.int 21 0,.int 0 0,.int 0 0,.int 0 0,.int 0 0,.ref 122,.bool false,.int 181 0,.ref 123,.none,.none,.none,.none,.int 333 0,.int 21 0,cp 334]
def ob125:Obj:={ cls:=.type "frame",slots:=#[some (.ref 124),some (.ref 3),some (.ref 121),none,some (.str "sumcraft.errors" 187),none,some (.ref 0)] }
def ob127 (P:Params):Obj:={ cls:=.type "dict",data:=Data.dict #[kE P "__module__" 335 (.str "sumcraft.errors" 187),kE P "__firstlineno__" 339 (.int 21 338),kE P "__static_attributes__" 340 (.ref 126),kE P "__doc__" 341 (.none)] 2 }
def ob128:Obj:={ cls:=.type "type",data:=Data.cls { name := "NoEnds",bases:=[.ref 24],mro:=[.ref 128,.ref 24,.type "ValueError",.type "Exception",.type "BaseException",.type "object"],ns:=127,qualname := "NoEnds" },slots:=#[some (.ref 119),none,some (.str "NoEnds" 328),some (.str "NoEnds" 336),some (.builtin "ValueError.__new__"),some (.bool true)] }
def ob129:Obj:={ cls:=.type "super",data:=Data.fields #[.ref 128,.ref 128,.ref 128] }
def ob130:Obj:=oB #[.builtin "object.__init_subclass__",.ref 128]
def ob133 (P:Params):Obj:={ cls:=.type "dict",data:=Data.dict #[kE P "__module__" 351 (.str "sumcraft.errors" 187),kE P "__qualname__" 353 (.str "NoLine" 352),kE P "__firstlineno__" 355 (.int 23 354),kE P "__static_attributes__" 356 (.ref 138)] 4 }
def ob136:Obj:=oK #[.str "NoLine" 346,.str "NoLine" 347,cp 348,.int 23 0,.int 0 0,.int 0 0,.int 0 0,.int 0 0,.ref 134,.bool false,.int 181 0,.ref 135,.none,.none,.none,.none,.int 349 0,.int 23 0,cp 350]
def ob137:Obj:={ cls:=.type "frame",slots:=#[some (.ref 136),some (.ref 3),some (.ref 133),none,some (.str "sumcraft.errors" 187),none,some (.ref 0)] }
def ob139 (P:Params):Obj:={ cls:=.type "dict",data:=Data.dict #[kE P "__module__" 351 (.str "sumcraft.errors" 187),kE P "__firstlineno__" 355 (.int 23 354),kE P "__static_attributes__" 356 (.ref 138),kE P "__doc__" 357 (.none)] 2 }
def ob140:Obj:={ cls:=.type "type",data:=Data.cls { name := "NoLine",bases:=[.ref 24],mro:=[.ref 140,.ref 24,.type "ValueError",.type "Exception",.type "BaseException",.type "object"],ns:=139,qualname := "NoLine" },slots:=#[some (.ref 131),none,some (.str "NoLine" 344),some (.str "NoLine" 352),some (.builtin "ValueError.__new__"),some (.bool true)] }
def ob141:Obj:={ cls:=.type "super",data:=Data.fields #[.ref 140,.ref 140,.ref 140] }
def ob142:Obj:=oB #[.builtin "object.__init_subclass__",.ref 140]
def ob145 (P:Params):Obj:={ cls:=.type "dict",data:=Data.dict #[kE P "__module__" 367 (.str "sumcraft.errors" 187),kE P "__qualname__" 369 (.str "NoName" 368),kE P "__firstlineno__" 371 (.int 25 370),kE P "__static_attributes__" 372 (.ref 150)] 4 }
def ob148:Obj:=oK #[.str "NoName" 362,.str "NoName" 363,cp 364,.int 25 0,.int 0 0,.int 0 0,.int 0 0,.int 0 0,.ref 146,.bool false,.int 181 0,.ref 147,.none,.none,.none,.none,.int 365 0,.int 25 0,cp 366]
def ob149:Obj:={ cls:=.type "frame",slots:=#[some (.ref 148),some (.ref 3),some (.ref 145),none,some (.str "sumcraft.errors" 187),none,some (.ref 0)] }
def ob151 (P:Params):Obj:={ cls:=.type "dict",data:=Data.dict #[kE P "__module__" 367 (.str "sumcraft.errors" 187),kE P "__firstlineno__" 371 (.int 25 370),kE P "__static_attributes__" 372 (.ref 150),kE P "__doc__" 373 (.none)] 2 }
def ob152:Obj:={ cls:=.type "type",data:=Data.cls { name := "NoName",bases:=[.ref 24],mro:=[.ref 152,.ref 24,.type "ValueError",.type "Exception",.type "BaseException",.type "object"],ns:=151,qualname := "NoName" },slots:=#[some (.ref 143),none,some (.str "NoName" 360),some (.str "NoName" 368),some (.builtin "ValueError.__new__"),some (.bool true)] }
def ob153:Obj:={ cls:=.type "super",data:=Data.fields #[.ref 152,.ref 152,.ref 152] }
def ob154:Obj:=oB #[.builtin "object.__init_subclass__",.ref 152]
def ob157:Obj:=frS 381 ["numbers","size"]
def ob159:Obj:=kN "trimmed" "trimmed" (top 13)
def ob160:Obj:=frC "trimmed" "trimmed" 378 28 1 3 155 true 181 383
def ob161:Obj:=kM "trimmed" "trimmed" (top 13) "sumcraft.polys" 376 160
def ob164:Obj:=frS 389 ["poly","by","answer","low","place"]
def ob166:Obj:=kN "shifted" "shifted" (top 14)
def ob167:Obj:=frC "shifted" "shifted" 386 33 2 3 162 true 181 394
def ob168:Obj:=kM "shifted" "shifted" (top 14) "sumcraft.polys" 376 167
def ob171:Obj:=frS 400 ["poly","n","answer","number"]
def ob173:Obj:=kN "poly_value" "poly_value" (top 15)
def ob174:Obj:=frC "poly_value" "poly_value" 397 39 2 3 169 true 181 404
def ob175:Obj:=kM "poly_value" "poly_value" (top 15) "sumcraft.polys" 376 174
def ob178:Obj:=frS 416 ["big","small","cut","ahead","behind","half","upper","lower","times","rest","further"]
def ob180:Obj:=kN "shortened" "shortened" (top 19)
def ob181:Obj:=frC "shortened" "shortened" 413 47 2 3 176 true 181 427
def ob182:Obj:=kM "shortened" "shortened" (top 19) "sumcraft.ratios" 407 181
noncomputable def frM2 (P:Params):List DictEntry:=frM1 P++[kE P "divisor" 441 (.ref 189),kE P "ratio" 450 (.ref 196),kE P "FARTHEST" 454 (.int 60 453),kE P "clear" 463 (.ref 203),kE P "reach" 471 (.ref 210),kE P "order_of" 481 (.ref 217),kE P "need_of" 489 (.ref 224),kE P "weighted" 498 (.ref 231),kE P "parted" 507 (.ref 238),kE P "total" 513 (.ref 243),kE P "rule_sum" 519 (.ref 248),kE P "keeps" 529 (.ref 255),kE P "check_first" 539 (.ref 262),kE P "next_value" 548 (.ref 269),kE P "carried_on" 558 (.ref 276),kE P "FARTHEST_PLACE" 562 (.int 400 561),kE P "Row" 604 (.ref 303),kE P "_law_cell_at" 614 (.ref 314),kE P "_law_number" 622 (.ref 321),kE P "_law_cut" 630 (.ref 328),kE P "_law_product" 641 (.ref 335),kE P "_law_value" 651 (.ref 342),kE P "_law_divisor" 660 (.ref 349),kE P "_law_lowest" 669 (.ref 356),kE P "_law_fraction" 678 (.ref 363),kE P "_law_weighed" 690 (.ref 370),kE P "_law_last" 696 (.ref 375),kE P "_law_parts" 702 (.ref 380),kE P "_law_roots" 708 (.ref 385),kE P "_law_rule" 714 (.ref 390),kE P "_law_need" 720 (.ref 395),kE P "_law_values" 735 (.ref 402)]
noncomputable def ob3'' (P:Params):Obj:=frD (kE P "__name__" 165 (.str "law_sumcraft_k14_rows_refused" 605)) (frM2 P) 58
def ob12''':Obj:=frL [(2,20),(4,33),(6,45),(8,57),(10,69),(15,88),(17,100),(19,112),(21,124),(23,136),(25,148),(28,160),(33,167),(39,174),(47,181),(63,188),(75,195),(84,202),(89,209),(97,216),(104,223),(107,230),(110,237),(115,242),(123,247),(126,254),(131,261),(138,268),(141,275),(149,282),(166,313),(170,320),(176,327),(181,334),(187,341),(192,348),(200,355),(205,362),(210,369),(217,374),(226,379),(239,384),(249,389),(254,394),(256,401)]
def ob185:Obj:=frS 433 ["one","other","big","small","pair","rest"]
def ob187:Obj:=kN "divisor" "divisor" (top 20)
def ob188:Obj:=frC "divisor" "divisor" 430 63 2 3 183 true 181 439
def ob189:Obj:=kM "divisor" "divisor" (top 20) "sumcraft.ratios" 407 188
def ob192:Obj:=frS 445 ["top","bottom","shared"]
def ob194:Obj:=kN "ratio" "ratio" (top 21)
def ob195:Obj:=frC "ratio" "ratio" 442 75 2 3 190 true 181 448
def ob196:Obj:=kM "ratio" "ratio" (top 21) "sumcraft.ratios" 407 195
def ob199:Obj:=frS 458 ["poly","m","moved"]
def ob201:Obj:=kN "clear" "clear" (top 24)
def ob202:Obj:=frC "clear" "clear" 455 84 2 3 197 true 181 461
def ob203:Obj:=kM "clear" "clear" (top 24) "sumcraft.reaches" 451 202
def ob206:Obj:=frS 467 ["poly","m"]
def ob208:Obj:=kN "reach" "reach" (top 25)
def ob209:Obj:=frC "reach" "reach" 464 89 1 3 204 true 181 469
def ob210:Obj:=kM "reach" "reach" (top 25) "sumcraft.reaches" 451 209
def ob213:Obj:=frS 477 ["rule","poly"]
def ob215:Obj:=kN "order_of" "order_of" (top 27)
def ob216:Obj:=frC "order_of" "order_of" 474 97 1 3 211 true 181 479
def ob217:Obj:=kM "order_of" "order_of" (top 27) "sumcraft.rules" 472 216
def ob220:Obj:=frS 485 ["rule","order"]
def ob222:Obj:=kN "need_of" "need_of" (top 28)
def ob223:Obj:=frC "need_of" "need_of" 482 104 1 3 218 true 181 487
def ob224:Obj:=kM "need_of" "need_of" (top 28) "sumcraft.rules" 472 223
def ob227:Obj:=frS 493 ["weight","fraction","shared"]
def ob229:Obj:=kN "weighted" "weighted" (top 29)
def ob230:Obj:=frC "weighted" "weighted" 490 107 2 3 225 true 181 496
def ob231:Obj:=kM "weighted" "weighted" (top 29) "sumcraft.rules" 472 230
def ob234:Obj:=frS 502 ["fraction","number","shared"]
def ob236:Obj:=kN "parted" "parted" (top 30)
def ob237:Obj:=frC "parted" "parted" 499 110 2 3 232 true 181 505
def ob238:Obj:=kM "parted" "parted" (top 30) "sumcraft.rules" 472 237
def ob241:Obj:=kN "total" "total" (top 31)
def ob242:Obj:=oK #[.str "total" 508,.str "total" 509,cp 510,.int 115 0,.int 1 0,.int 0 0,.int 0 0,.int 3 0,.ref 239,.bool true,.int 181 0,.ref 240,.none,.none,.none,.ref 241,.int 511 0,.int 115 0,cp 512]
def ob243:Obj:=kM "total" "total" (top 31) "sumcraft.rules" 472 242
def ob246:Obj:=kN "rule_sum" "rule_sum" (top 32)
def ob247:Obj:=oK #[.str "rule_sum" 514,.str "rule_sum" 515,cp 516,.int 123 0,.int 3 0,.int 0 0,.int 0 0,.int 3 0,.ref 244,.bool true,.int 181 0,.ref 245,.none,.none,.none,.ref 246,.int 517 0,.int 123 0,cp 518]
def ob248:Obj:=kM "rule_sum" "rule_sum" (top 32) "sumcraft.rules" 472 247
def ob251:Obj:=frS 523 ["rule","values","n","order"]
def ob253:Obj:=kN "keeps" "keeps" (top 33)
def ob254:Obj:=frC "keeps" "keeps" 520 126 3 3 249 true 181 527
def ob255:Obj:=kM "keeps" "keeps" (top 33) "sumcraft.rules" 472 254
def ob258:Obj:=frS 533 ["rule","first","need","n"]
def ob260:Obj:=kN "check_first" "check_first" (top 34)
def ob261:Obj:=frC "check_first" "check_first" 530 131 2 3 256 true 181 537
def ob262:Obj:=kM "check_first" "check_first" (top 34) "sumcraft.rules" 472 261
def ob265:Obj:=frS 543 ["rule","values","n"]
def ob267:Obj:=kN "next_value" "next_value" (top 35)
def ob268:Obj:=frC "next_value" "next_value" 540 138 2 3 263 true 181 546
def ob269:Obj:=kM "next_value" "next_value" (top 35) "sumcraft.rules" 472 268
def ob272:Obj:=frS 552 ["rule","first","many","values"]
def ob274:Obj:=kN "carried_on" "carried_on" (top 36)
def ob275:Obj:=frC "carried_on" "carried_on" 549 141 3 3 270 true 181 556
def ob276:Obj:=kM "carried_on" "carried_on" (top 36) "sumcraft.rules" 472 275
def ob279 (P:Params):Obj:={ cls:=.type "dict",data:=Data.dict #[kE P "__module__" 570 (.str "sumcraft.rows" 559),kE P "__qualname__" 572 (.str "Row" 571),kE P "__firstlineno__" 574 (.int 149 573),kE P "__init__" 580 (.ref 288),kE P "at" 588 (.ref 295),kE P "told" 594 (.ref 300),kE P "__static_attributes__" 597 (.ref 301)] 7 }
def ob281:Obj:=oF #[.int 151 0,.int 4 0,.ref 287,.int 156 0,.int 4 0,.ref 294,.int 163 0,.int 4 0,.ref 299]
def ob282:Obj:=oK #[.str "Row" 565,.str "Row" 566,cp 567,.int 149 0,.int 0 0,.int 0 0,.int 0 0,.int 0 0,.ref 280,.bool false,.int 181 0,.ref 281,.none,.none,.none,.none,.int 568 0,.int 149 0,cp 569]
def ob283:Obj:={ cls:=.type "frame",slots:=#[some (.ref 282),some (.ref 3),some (.ref 279),none,some (.str "sumcraft.rows" 559),none,some (.ref 0)] }
def ob286:Obj:=kN "__init__" "Row.__init__" (inCls (top 39) 0)
def ob287:Obj:=oK #[.str "__init__" 575,.str "Row.__init__" 576,cp 577,.int 151 0,.int 3 0,.int 0 0,.int 0 0,.int 3 0,.ref 284,.bool true,.int 181 0,.ref 285,.none,.none,.none,.ref 286,.int 578 0,.int 151 0,cp 579]
def ob288:Obj:=kM "__init__" "Row.__init__" (inCls (top 39) 0) "sumcraft.rows" 559 287
def ob291:Obj:=frS 584 ["self","n"]
def ob293:Obj:=kN "at" "Row.at" (inCls (top 39) 1)
def ob294:Obj:=frC "at" "Row.at" 581 156 2 3 289 true 181 586
def ob295:Obj:=kM "at" "Row.at" (inCls (top 39) 1) "sumcraft.rows" 559 294
def ob298:Obj:=kN "told" "Row.told" (inCls (top 39) 2)
def ob299:Obj:=oK #[.str "told" 589,.str "Row.told" 590,cp 591,.int 163 0,.int 1 0,.int 0 0,.int 0 0,.int 3 0,.ref 296,.bool true,.int 181 0,.ref 297,.none,.none,.none,.ref 298,.int 592 0,.int 163 0,cp 593]
def ob300:Obj:=kM "told" "Row.told" (inCls (top 39) 2) "sumcraft.rows" 559 299
def ob301:Obj:=frS 595 ["known","rule"]
def ob302 (P:Params):Obj:={ cls:=.type "dict",data:=Data.dict #[kE P "__module__" 570 (.str "sumcraft.rows" 559),kE P "__firstlineno__" 574 (.int 149 573),kE P "__init__" 580 (.ref 288),kE P "at" 588 (.ref 295),kE P "told" 594 (.ref 300),kE P "__static_attributes__" 597 (.ref 301),kE P "__dict__" 599 (.ref 304),kE P "__weakref__" 601 (.ref 305),kE P "__doc__" 602 (.none)] 4 }
def ob303:Obj:={ cls:=.type "type",data:=Data.cls { name := "Row",bases:=[.type "object"],mro:=[.ref 303,.type "object"],ns:=302,qualname := "Row" },slots:=#[none,none,some (.str "Row" 563),some (.str "Row" 571),some (.builtin "object.__new__"),some (.bool true)] }
def ob304:Obj:={ cls:=.type "getset_descriptor",data:=Data.fields #[.str "__dict__" 598,.ref 303,.builtin "function.__dict__",.builtin "function.__dict__#set"] }
def ob305:Obj:={ cls:=.type "getset_descriptor",data:=Data.fields #[.str "__weakref__" 600,.ref 303,.builtin "ExceptionGroup.__weakref__",.none] }
def ob306:Obj:={ cls:=.type "super",data:=Data.fields #[.ref 303,.ref 303,.ref 303] }
def ob307:Obj:=oB #[.builtin "object.__init_subclass__",.ref 303]
def ob310:Obj:=frS 610 ["_law_script","_law_k"]
def ob312:Obj:=kN "_law_cell_at" "_law_cell_at" (top 41)
def ob313:Obj:=frC "_law_cell_at" "_law_cell_at" 607 166 2 3 308 true 181 612
def ob314:Obj:=kM "_law_cell_at" "_law_cell_at" (top 41) "law_sumcraft_k14_rows_refused" 605 313
def ob317:Obj:=frS 618 ["_law_cell","_law_most"]
def ob319:Obj:=kN "_law_number" "_law_number" (top 42)
def ob320:Obj:=frC "_law_number" "_law_number" 615 170 2 3 315 true 181 620
def ob321:Obj:=kM "_law_number" "_law_number" (top 42) "law_sumcraft_k14_rows_refused" 605 320
def ob324:Obj:=frS 626 ["_law_numbers","_law_found"]
def ob326:Obj:=kN "_law_cut" "_law_cut" (top 43)
def ob327:Obj:=frC "_law_cut" "_law_cut" 623 176 1 3 322 true 181 628
def ob328:Obj:=kM "_law_cut" "_law_cut" (top 43) "law_sumcraft_k14_rows_refused" 605 327
def ob331:Obj:=frS 634 ["_law_one","_law_other","_law_found","_law_i","_law_j"]
def ob333:Obj:=kN "_law_product" "_law_product" (top 44)
def ob334:Obj:=frC "_law_product" "_law_product" 631 181 2 3 329 true 181 639
def ob335:Obj:=kM "_law_product" "_law_product" (top 44) "law_sumcraft_k14_rows_refused" 605 334
def ob338:Obj:=frS 645 ["_law_poly","_law_n","_law_found","_law_number_here"]
def ob340:Obj:=kN "_law_value" "_law_value" (top 45)
def ob341:Obj:=frC "_law_value" "_law_value" 642 187 2 3 336 true 181 649
def ob342:Obj:=kM "_law_value" "_law_value" (top 45) "law_sumcraft_k14_rows_refused" 605 341
def ob345:Obj:=frS 655 ["_law_one","_law_other","_law_rest"]
def ob347:Obj:=kN "_law_divisor" "_law_divisor" (top 46)
def ob348:Obj:=frC "_law_divisor" "_law_divisor" 652 192 2 3 343 true 181 658
def ob349:Obj:=kM "_law_divisor" "_law_divisor" (top 46) "law_sumcraft_k14_rows_refused" 605 348
def ob352:Obj:=frS 664 ["_law_top","_law_bottom","_law_by"]
def ob354:Obj:=kN "_law_lowest" "_law_lowest" (top 47)
def ob355:Obj:=frC "_law_lowest" "_law_lowest" 661 200 2 3 350 true 181 667
def ob356:Obj:=kM "_law_lowest" "_law_lowest" (top 47) "law_sumcraft_k14_rows_refused" 605 355
def ob359:Obj:=frS 673 ["_law_cell","_law_number_here","_law_bottom"]
def ob361:Obj:=kN "_law_fraction" "_law_fraction" (top 48)
def ob362:Obj:=frC "_law_fraction" "_law_fraction" 670 205 1 3 357 true 181 676
def ob363:Obj:=kM "_law_fraction" "_law_fraction" (top 48) "law_sumcraft_k14_rows_refused" 605 362
def ob366:Obj:=frS 682 ["_law_rule_here","_law_values_here","_law_n","_law_top","_law_bottom","_law_i"]
def ob368:Obj:=kN "_law_weighed" "_law_weighed" (top 49)
def ob369:Obj:=frC "_law_weighed" "_law_weighed" 679 210 3 3 364 true 181 688
def ob370:Obj:=kM "_law_weighed" "_law_weighed" (top 49) "law_sumcraft_k14_rows_refused" 605 369
def ob373:Obj:=kN "_law_last" "_law_last" (top 50)
def ob374:Obj:=oK #[.str "_law_last" 691,.str "_law_last" 692,cp 693,.int 217 0,.int 1 0,.int 0 0,.int 0 0,.int 3 0,.ref 371,.bool true,.int 181 0,.ref 372,.none,.none,.none,.ref 373,.int 694 0,.int 217 0,cp 695]
def ob375:Obj:=kM "_law_last" "_law_last" (top 50) "law_sumcraft_k14_rows_refused" 605 374
def ob378:Obj:=kN "_law_parts" "_law_parts" (top 51)
def ob379:Obj:=oK #[.str "_law_parts" 697,.str "_law_parts" 698,cp 699,.int 226 0,.int 1 0,.int 0 0,.int 0 0,.int 3 0,.ref 376,.bool true,.int 181 0,.ref 377,.none,.none,.none,.ref 378,.int 700 0,.int 226 0,cp 701]
def ob380:Obj:=kM "_law_parts" "_law_parts" (top 51) "law_sumcraft_k14_rows_refused" 605 379
def ob383:Obj:=kN "_law_roots" "_law_roots" (top 52)
def ob384:Obj:=oK #[.str "_law_roots" 703,.str "_law_roots" 704,cp 705,.int 239 0,.int 1 0,.int 0 0,.int 0 0,.int 3 0,.ref 381,.bool true,.int 181 0,.ref 382,.none,.none,.none,.ref 383,.int 706 0,.int 239 0,cp 707]
def ob385:Obj:=kM "_law_roots" "_law_roots" (top 52) "law_sumcraft_k14_rows_refused" 605 384
def ob388:Obj:=kN "_law_rule" "_law_rule" (top 53)
def ob389:Obj:=oK #[.str "_law_rule" 709,.str "_law_rule" 710,cp 711,.int 249 0,.int 2 0,.int 0 0,.int 0 0,.int 3 0,.ref 386,.bool true,.int 181 0,.ref 387,.none,.none,.none,.ref 388,.int 712 0,.int 249 0,cp 713]
def ob390:Obj:=kM "_law_rule" "_law_rule" (top 53) "law_sumcraft_k14_rows_refused" 605 389
def ob393:Obj:=kN "_law_need" "_law_need" (top 54)
def ob394:Obj:=oK #[.str "_law_need" 715,.str "_law_need" 716,cp 717,.int 254 0,.int 2 0,.int 0 0,.int 0 0,.int 3 0,.ref 391,.bool true,.int 181 0,.ref 392,.none,.none,.none,.ref 393,.int 718 0,.int 254 0,cp 719]
def ob395:Obj:=kM "_law_need" "_law_need" (top 54) "law_sumcraft_k14_rows_refused" 605 394
def ob398:Obj:=frS 724 ["_law_parts_here","_law_roots_here","_law_cells","_law_many","_law_values_here","_law_at","_law_n","_law_top","_law_bottom"]
def ob400:Obj:=kN "_law_values" "_law_values" (top 55)
def ob401:Obj:=frC "_law_values" "_law_values" 721 256 4 3 396 true 181 733
def ob402:Obj:=kM "_law_values" "_law_values" (top 55) "law_sumcraft_k14_rows_refused" 605 401
noncomputable def frM3 (P:Params):List DictEntry:=frM2 P++[kE P "_law_spoiled_first" 747 (.ref 409),kE P "_law_spoiled_rule" 753 (.ref 414),kE P "_law_due" 759 (.ref 419),kE P "_law_caught" 770 (.ref 426),kE P "_law_place" 780 (.ref 433),kE P "_law_is" 786 (.ref 438),kE P "_law_taken" 792 (.ref 443),kE P "law" 798 (.ref 448)]
noncomputable def ob3''' (P:Params):Obj:=frD (kE P "__name__" 165 (.str "law_sumcraft_k14_rows_refused" 605)) (frM3 P) 66
def ob12'''':Obj:=frL [(2,20),(4,33),(6,45),(8,57),(10,69),(15,88),(17,100),(19,112),(21,124),(23,136),(25,148),(28,160),(33,167),(39,174),(47,181),(63,188),(75,195),(84,202),(89,209),(97,216),(104,223),(107,230),(110,237),(115,242),(123,247),(126,254),(131,261),(138,268),(141,275),(149,282),(166,313),(170,320),(176,327),(181,334),(187,341),(192,348),(200,355),(205,362),(210,369),(217,374),(226,379),(239,384),(249,389),(254,394),(256,401),(266,408),(276,413),(289,418),(300,425),(310,432),(317,437),(325,442),(328,447)]
def ob405:Obj:=frS 739 ["_law_script","_law_first","_law_cell","_law_values_here","_law_k","_law_at"]
def ob407:Obj:=kN "_law_spoiled_first" "_law_spoiled_first" (top 56)
def ob408:Obj:=frC "_law_spoiled_first" "_law_spoiled_first" 736 266 2 3 403 true 181 745
def ob409:Obj:=kM "_law_spoiled_first" "_law_spoiled_first" (top 56) "law_sumcraft_k14_rows_refused" 605 408
def ob412:Obj:=kN "_law_spoiled_rule" "_law_spoiled_rule" (top 57)
def ob413:Obj:=oK #[.str "_law_spoiled_rule" 748,.str "_law_spoiled_rule" 749,cp 750,.int 276 0,.int 2 0,.int 0 0,.int 0 0,.int 3 0,.ref 410,.bool true,.int 181 0,.ref 411,.none,.none,.none,.ref 412,.int 751 0,.int 276 0,cp 752]
def ob414:Obj:=kM "_law_spoiled_rule" "_law_spoiled_rule" (top 57) "law_sumcraft_k14_rows_refused" 605 413
def ob417:Obj:=kN "_law_due" "_law_due" (top 58)
def ob418:Obj:=oK #[.str "_law_due" 754,.str "_law_due" 755,cp 756,.int 289 0,.int 4 0,.int 0 0,.int 0 0,.int 3 0,.ref 415,.bool true,.int 181 0,.ref 416,.none,.none,.none,.ref 417,.int 757 0,.int 289 0,cp 758]
def ob419:Obj:=kM "_law_due" "_law_due" (top 58) "law_sumcraft_k14_rows_refused" 605 418
def ob422:Obj:=frS 763 ["_law_as_row","_law_rule_here","_law_values_here","_law_caught_here","e"]
def ob424:Obj:=kN "_law_caught" "_law_caught" (top 59)
def ob425:Obj:=frC "_law_caught" "_law_caught" 760 300 3 3 420 true 181 768
def ob426:Obj:=kM "_law_caught" "_law_caught" (top 59) "law_sumcraft_k14_rows_refused" 605 425
def ob429:Obj:=frS 774 ["_law_rule_here","_law_values_here","_law_place_here","e"]
def ob431:Obj:=kN "_law_place" "_law_place" (top 60)
def ob432:Obj:=frC "_law_place" "_law_place" 771 310 2 3 427 true 181 778
def ob433:Obj:=kM "_law_place" "_law_place" (top 60) "law_sumcraft_k14_rows_refused" 605 432
def ob436:Obj:=kN "_law_is" "_law_is" (top 61)
def ob437:Obj:=oK #[.str "_law_is" 781,.str "_law_is" 782,cp 783,.int 317 0,.int 2 0,.int 0 0,.int 0 0,.int 3 0,.ref 434,.bool true,.int 181 0,.ref 435,.none,.none,.none,.ref 436,.int 784 0,.int 317 0,cp 785]
def ob438:Obj:=kM "_law_is" "_law_is" (top 61) "law_sumcraft_k14_rows_refused" 605 437
def ob441:Obj:=kN "_law_taken" "_law_taken" (top 62)
def ob442:Obj:=oK #[.str "_law_taken" 787,.str "_law_taken" 788,cp 789,.int 325 0,.int 2 0,.int 0 0,.int 0 0,.int 3 0,.ref 439,.bool true,.int 181 0,.ref 440,.none,.none,.none,.ref 441,.int 790 0,.int 325 0,cp 791]
def ob443:Obj:=kM "_law_taken" "_law_taken" (top 62) "law_sumcraft_k14_rows_refused" 605 442
def ob446:Obj:=kN "law" "law" (top 63)
def ob447:Obj:=oK #[.str "law" 793,.str "law" 794,cp 795,.int 328 0,.int 1 0,.int 0 0,.int 0 0,.int 3 0,.ref 444,.bool true,.int 181 0,.ref 445,.none,.none,.none,.ref 446,.int 796 0,.int 328 0,cp 797]
def ob448:Obj:=kM "law" "law" (top 63) "law_sumcraft_k14_rows_refused" 605 447
def env0:Env:={ scope:=PySem.Challenge.pw_sumcraft_k14_rows_refused.main.scope,locals:=mainNs,globals:=mainNs,cells:=[],code:=.ref 13,frame:=some 14 }
def cd0:Code:=.body (behindTheImports PySem.Challenge.pw_sumcraft_k14_rows_refused) env0
def fr0:List Frame:=[topFrame { line:=0,col:=0,endLine:=0,endCol:=0 }]
noncomputable def hp1 (P:Params):Heap:=⟨⟨[boot_o_0 P,boot_o_1 P,boot_o_2 P,boot_o_3 P,boot_o_4 P,boot_o_5 P,boot_o_6 P,boot_o_7 P,boot_o_8 P,boot_o_9 P,boot_o_10 P,ob11,ob12,ob13,ob14]⟩,{}⟩
noncomputable def hp3 (P:Params):Heap:=⟨⟨[boot_o_0 P,boot_o_1 P,boot_o_2 P,ob3 P,boot_o_4 P,boot_o_5 P,boot_o_6 P,boot_o_7 P,boot_o_8 P,boot_o_9 P,boot_o_10 P,ob11,ob12',ob13,ob14,ob15,ob16,ob17 P,ob11,ob12,ob20,ob21,ob11,ob23 P,ob24,ob25,ob26,ob27,ob28,ob16,ob30 P,ob11,ob12,ob33,ob34,ob11,ob36 P,ob37,ob38,ob39,ob28,ob16,ob42 P,ob11,ob12,ob45,ob46,ob11,ob48 P,ob49,ob50,ob51,ob28,ob16,ob54 P,ob11,ob12,ob57,ob58,ob11,ob60 P,ob61,ob62,ob63,ob28,ob16,ob66 P,ob11,ob68,ob69,ob70,ob11,ob12,ob73,ob11,ob75,ob76,ob77,ob78,ob79 P,ob80,ob81,ob82,ob28,ob16,ob85 P,ob11,ob12,ob88,ob89,ob11,ob91 P,ob92,ob93,ob94]⟩,{}⟩
noncomputable def hp4 (P:Params):Heap:=⟨⟨[boot_o_0 P,boot_o_1 P,boot_o_2 P,ob3' P,boot_o_4 P,boot_o_5 P,boot_o_6 P,boot_o_7 P,boot_o_8 P,boot_o_9 P,boot_o_10 P,ob11,ob12'',ob13,ob14,ob15,ob16,ob17 P,ob11,ob12,ob20,ob21,ob11,ob23 P,ob24',ob25,ob26,ob27,ob28,ob16,ob30 P,ob11,ob12,ob33,ob34,ob11,ob36 P,ob37,ob38,ob39,ob28,ob16,ob42 P,ob11,ob12,ob45,ob46,ob11,ob48 P,ob49,ob50,ob51,ob28,ob16,ob54 P,ob11,ob12,ob57,ob58,ob11,ob60 P,ob61,ob62,ob63,ob28,ob16,ob66 P,ob11,ob68,ob69,ob70,ob11,ob12,ob73,ob11,ob75,ob76,ob77,ob78,ob79 P,ob80,ob81,ob82,ob28,ob16,ob85 P,ob11,ob12,ob88,ob89,ob11,ob91 P,ob92,ob93,ob94,ob28,ob16,ob97 P,ob11,ob12,ob100,ob101,ob11,ob103 P,ob104,ob105,ob106,ob28,ob16,ob109 P,ob11,ob12,ob112,ob113,ob11,ob115 P,ob116,ob117,ob118,ob28,ob16,ob121 P,ob11,ob12,ob124,ob125,ob11,ob127 P,ob128,ob129,ob130,ob28,ob16,ob133 P,ob11,ob12,ob136,ob137,ob11,ob139 P,ob140,ob141,ob142,ob28,ob16,ob145 P,ob11,ob12,ob148,ob149,ob11,ob151 P,ob152,ob153,ob154,ob11,ob12,ob157,ob11,ob159,ob160,ob161,ob11,ob12,ob164,ob11,ob166,ob167,ob168,ob11,ob12,ob171,ob11,ob173,ob174,ob175,ob11,ob12,ob178,ob11,ob180,ob181,ob182]⟩,{}⟩
noncomputable def hp5 (P:Params):Heap:=⟨⟨[boot_o_0 P,boot_o_1 P,boot_o_2 P,ob3'' P,boot_o_4 P,boot_o_5 P,boot_o_6 P,boot_o_7 P,boot_o_8 P,boot_o_9 P,boot_o_10 P,ob11,ob12''',ob13,ob14,ob15,ob16,ob17 P,ob11,ob12,ob20,ob21,ob11,ob23 P,ob24',ob25,ob26,ob27,ob28,ob16,ob30 P,ob11,ob12,ob33,ob34,ob11,ob36 P,ob37,ob38,ob39,ob28,ob16,ob42 P,ob11,ob12,ob45,ob46,ob11,ob48 P,ob49,ob50,ob51,ob28,ob16,ob54 P,ob11,ob12,ob57,ob58,ob11,ob60 P,ob61,ob62,ob63,ob28,ob16,ob66 P,ob11,ob68,ob69,ob70,ob11,ob12,ob73,ob11,ob75,ob76,ob77,ob78,ob79 P,ob80,ob81,ob82,ob28,ob16,ob85 P,ob11,ob12,ob88,ob89,ob11,ob91 P,ob92,ob93,ob94,ob28,ob16,ob97 P,ob11,ob12,ob100,ob101,ob11,ob103 P,ob104,ob105,ob106,ob28,ob16,ob109 P,ob11,ob12,ob112,ob113,ob11,ob115 P,ob116,ob117,ob118,ob28,ob16,ob121 P,ob11,ob12,ob124,ob125,ob11,ob127 P,ob128,ob129,ob130,ob28,ob16,ob133 P,ob11,ob12,ob136,ob137,ob11,ob139 P,ob140,ob141,ob142,ob28,ob16,ob145 P,ob11,ob12,ob148,ob149,ob11,ob151 P,ob152,ob153,ob154,ob11,ob12,ob157,ob11,ob159,ob160,ob161,ob11,ob12,ob164,ob11,ob166,ob167,ob168,ob11,ob12,ob171,ob11,ob173,ob174,ob175,ob11,ob12,ob178,ob11,ob180,ob181,ob182,ob11,ob12,ob185,ob11,ob187,ob188,ob189,ob11,ob12,ob192,ob11,ob194,ob195,ob196,ob11,ob12,ob199,ob11,ob201,ob202,ob203,ob11,ob12,ob206,ob11,ob208,ob209,ob210,ob11,ob12,ob213,ob11,ob215,ob216,ob217,ob11,ob12,ob220,ob11,ob222,ob223,ob224,ob11,ob12,ob227,ob11,ob229,ob230,ob231,ob11,ob12,ob234,ob11,ob236,ob237,ob238,ob11,ob12,ob241,ob242,ob243,ob11,ob12,ob246,ob247,ob248,ob11,ob12,ob251,ob11,ob253,ob254,ob255,ob11,ob12,ob258,ob11,ob260,ob261,ob262,ob11,ob12,ob265,ob11,ob267,ob268,ob269,ob11,ob12,ob272,ob11,ob274,ob275,ob276,ob11,ob16,ob279 P,ob11,ob281,ob282,ob283,ob11,ob12,ob286,ob287,ob288,ob11,ob12,ob291,ob11,ob293,ob294,ob295,ob11,ob12,ob298,ob299,ob300,ob301,ob302 P,ob303,ob304,ob305,ob306,ob307,ob11,ob12,ob310,ob11,ob312,ob313,ob314,ob11,ob12,ob317,ob11,ob319,ob320,ob321,ob11,ob12,ob324,ob11,ob326,ob327,ob328,ob11,ob12,ob331,ob11,ob333,ob334,ob335,ob11,ob12,ob338,ob11,ob340,ob341,ob342,ob11,ob12,ob345,ob11,ob347,ob348,ob349,ob11,ob12,ob352,ob11,ob354,ob355,ob356,ob11,ob12,ob359,ob11,ob361,ob362,ob363,ob11,ob12,ob366,ob11,ob368,ob369,ob370,ob11,ob12,ob373,ob374,ob375,ob11,ob12,ob378,ob379,ob380,ob11,ob12,ob383,ob384,ob385,ob11,ob12,ob388,ob389,ob390,ob11,ob12,ob393,ob394,ob395,ob11,ob12,ob398,ob11,ob400,ob401,ob402]⟩,{}⟩
noncomputable def hp6 (P:Params):Heap:=⟨⟨[boot_o_0 P,boot_o_1 P,boot_o_2 P,ob3''' P,boot_o_4 P,boot_o_5 P,boot_o_6 P,boot_o_7 P,boot_o_8 P,boot_o_9 P,boot_o_10 P,ob11,ob12'''',ob13,ob14,ob15,ob16,ob17 P,ob11,ob12,ob20,ob21,ob11,ob23 P,ob24',ob25,ob26,ob27,ob28,ob16,ob30 P,ob11,ob12,ob33,ob34,ob11,ob36 P,ob37,ob38,ob39,ob28,ob16,ob42 P,ob11,ob12,ob45,ob46,ob11,ob48 P,ob49,ob50,ob51,ob28,ob16,ob54 P,ob11,ob12,ob57,ob58,ob11,ob60 P,ob61,ob62,ob63,ob28,ob16,ob66 P,ob11,ob68,ob69,ob70,ob11,ob12,ob73,ob11,ob75,ob76,ob77,ob78,ob79 P,ob80,ob81,ob82,ob28,ob16,ob85 P,ob11,ob12,ob88,ob89,ob11,ob91 P,ob92,ob93,ob94,ob28,ob16,ob97 P,ob11,ob12,ob100,ob101,ob11,ob103 P,ob104,ob105,ob106,ob28,ob16,ob109 P,ob11,ob12,ob112,ob113,ob11,ob115 P,ob116,ob117,ob118,ob28,ob16,ob121 P,ob11,ob12,ob124,ob125,ob11,ob127 P,ob128,ob129,ob130,ob28,ob16,ob133 P,ob11,ob12,ob136,ob137,ob11,ob139 P,ob140,ob141,ob142,ob28,ob16,ob145 P,ob11,ob12,ob148,ob149,ob11,ob151 P,ob152,ob153,ob154,ob11,ob12,ob157,ob11,ob159,ob160,ob161,ob11,ob12,ob164,ob11,ob166,ob167,ob168,ob11,ob12,ob171,ob11,ob173,ob174,ob175,ob11,ob12,ob178,ob11,ob180,ob181,ob182,ob11,ob12,ob185,ob11,ob187,ob188,ob189,ob11,ob12,ob192,ob11,ob194,ob195,ob196,ob11,ob12,ob199,ob11,ob201,ob202,ob203,ob11,ob12,ob206,ob11,ob208,ob209,ob210,ob11,ob12,ob213,ob11,ob215,ob216,ob217,ob11,ob12,ob220,ob11,ob222,ob223,ob224,ob11,ob12,ob227,ob11,ob229,ob230,ob231,ob11,ob12,ob234,ob11,ob236,ob237,ob238,ob11,ob12,ob241,ob242,ob243,ob11,ob12,ob246,ob247,ob248,ob11,ob12,ob251,ob11,ob253,ob254,ob255,ob11,ob12,ob258,ob11,ob260,ob261,ob262,ob11,ob12,ob265,ob11,ob267,ob268,ob269,ob11,ob12,ob272,ob11,ob274,ob275,ob276,ob11,ob16,ob279 P,ob11,ob281,ob282,ob283,ob11,ob12,ob286,ob287,ob288,ob11,ob12,ob291,ob11,ob293,ob294,ob295,ob11,ob12,ob298,ob299,ob300,ob301,ob302 P,ob303,ob304,ob305,ob306,ob307,ob11,ob12,ob310,ob11,ob312,ob313,ob314,ob11,ob12,ob317,ob11,ob319,ob320,ob321,ob11,ob12,ob324,ob11,ob326,ob327,ob328,ob11,ob12,ob331,ob11,ob333,ob334,ob335,ob11,ob12,ob338,ob11,ob340,ob341,ob342,ob11,ob12,ob345,ob11,ob347,ob348,ob349,ob11,ob12,ob352,ob11,ob354,ob355,ob356,ob11,ob12,ob359,ob11,ob361,ob362,ob363,ob11,ob12,ob366,ob11,ob368,ob369,ob370,ob11,ob12,ob373,ob374,ob375,ob11,ob12,ob378,ob379,ob380,ob11,ob12,ob383,ob384,ob385,ob11,ob12,ob388,ob389,ob390,ob11,ob12,ob393,ob394,ob395,ob11,ob12,ob398,ob11,ob400,ob401,ob402,ob11,ob12,ob405,ob11,ob407,ob408,ob409,ob11,ob12,ob412,ob413,ob414,ob11,ob12,ob417,ob418,ob419,ob11,ob12,ob422,ob11,ob424,ob425,ob426,ob11,ob12,ob429,ob11,ob431,ob432,ob433,ob11,ob12,ob436,ob437,ob438,ob11,ob12,ob441,ob442,ob443,ob11,ob12,ob446,ob447,ob448]⟩,{}⟩
set_option maxHeartbeats 0 in
theorem pc_pre (w:World) (os:OsState):topGo treeTable PySem.Challenge.pw_sumcraft_k14_rows_refused w 11 (some (.ref 6)) 12 (⟨boot_heap w.params,Array.mk [],boot_drawn,boot_toks,os⟩:Shared) (topStub PySem.Challenge.pw_sumcraft_k14_rows_refused)=some ((⟨hp1 w.params,#[],{},187,os⟩:Shared),⟨denote treeTable cd0,cd0,{ line:=0,col:=0,endLine:=0,endCol:=0 },fr0⟩):=by kernel_rfl
set_option maxHeartbeats 0 in
theorem pc_blk (w:World) (os:OsState):segRun treeTable PySem.Challenge.pw_sumcraft_k14_rows_refused w 11 (some (.ref 6)) 1 1 (⟨hp1 w.params,#[],{},187,os⟩:Shared) (blockOf (behindTheImports PySem.Challenge.pw_sumcraft_k14_rows_refused) env0 cd0 { line:=0,col:=0,endLine:=0,endCol:=0 } fr0)=some (.next,(⟨hp1 w.params,#[],{},187,os⟩:Shared),cd0,{ line:=0,col:=0,endLine:=0,endCol:=0 }):=by kernel_rfl
noncomputable def gl3:List Stmt:=[top 0,top 1,top 2,top 3,top 4,top 5,top 6]
set_option maxHeartbeats 0 in
theorem pc3 (w:World) (os:OsState):segRun treeTable PySem.Challenge.pw_sumcraft_k14_rows_refused w 11 (some (.ref 6)) 1 1293 (⟨hp1 w.params,#[],{},187,os⟩:Shared) (piecesOf gl3 env0 cd0 { line:=0,col:=0,endLine:=0,endCol:=0 } fr0)=some (.next,(⟨hp3 w.params,#[],{},296,os⟩:Shared),cd0,{ line:=15,col:=0,endLine:=16,endCol:=8 }):=by kernel_rfl
noncomputable def gl4:List Stmt:=[top 7,top 8,top 9,top 10,top 11,top 12,top 13,top 14,top 15,top 16,top 17,top 18,top 19]
set_option maxHeartbeats 0 in
theorem pc4 (w:World) (os:OsState):segRun treeTable PySem.Challenge.pw_sumcraft_k14_rows_refused w 11 (some (.ref 6)) 1 1236 (⟨hp3 w.params,#[],{},296,os⟩:Shared) (piecesOf gl4 env0 cd0 { line:=15,col:=0,endLine:=16,endCol:=8 } fr0)=some (.next,(⟨hp4 w.params,#[],{},430,os⟩:Shared),cd0,{ line:=47,col:=0,endLine:=62,endCol:=91 }):=by kernel_rfl
noncomputable def gl5:List Stmt:=[top 20,top 21,top 22,top 23,top 24,top 25,top 26,top 27,top 28,top 29,top 30,top 31,top 32,top 33,top 34,top 35,top 36,top 37,top 38,top 39,top 40,top 41,top 42,top 43,top 44,top 45,top 46,top 47,top 48,top 49,top 50,top 51,top 52,top 53,top 54,top 55]
set_option maxHeartbeats 0 in
theorem pc5 (w:World) (os:OsState):segRun treeTable PySem.Challenge.pw_sumcraft_k14_rows_refused w 11 (some (.ref 6)) 1 1210 (⟨hp4 w.params,#[],{},430,os⟩:Shared) (piecesOf gl5 env0 cd0 { line:=47,col:=0,endLine:=62,endCol:=91 } fr0)=some (.next,(⟨hp5 w.params,#[],{},736,os⟩:Shared),cd0,{ line:=256,col:=0,endLine:=265,endCol:=27 }):=by kernel_rfl
noncomputable def gl6:List Stmt:=[top 56,top 57,top 58,top 59,top 60,top 61,top 62,top 63]
set_option maxHeartbeats 0 in
theorem pc6 (w:World) (os:OsState):segRun treeTable PySem.Challenge.pw_sumcraft_k14_rows_refused w 11 (some (.ref 6)) 1 230 (⟨hp5 w.params,#[],{},736,os⟩:Shared) (piecesOf gl6 env0 cd0 { line:=256,col:=0,endLine:=265,endCol:=27 } fr0)=some (.next,(⟨hp6 w.params,#[],{},799,os⟩:Shared),cd0,{ line:=328,col:=0,endLine:=351,endCol:=82 }):=by kernel_rfl
set_option maxHeartbeats 0 in
theorem pc_fin (w:World) (os:OsState):topRun treeTable PySem.Challenge.pw_sumcraft_k14_rows_refused w 11 (some (.ref 6)) 2 (⟨hp6 w.params,#[],{},799,os⟩:Shared) ⟨doneF .next,cd0,{ line:=328,col:=0,endLine:=351,endCol:=82 },fr0⟩=some (⟨hp6 w.params,#[],{},799,os⟩:Shared):=by kernel_rfl
theorem body_is:behindTheImports PySem.Challenge.pw_sumcraft_k14_rows_refused=gl3++(gl4++(gl5++(gl6++[]))):=by kernel_rfl
theorem run0 (w:World) (os:OsState):topRun treeTable PySem.Challenge.pw_sumcraft_k14_rows_refused w 11 (some (.ref 6)) (12+(1+(1293+(1236+(1210+(230+2)))))) (⟨boot_heap w.params,Array.mk [],boot_drawn,boot_toks,os⟩:Shared) (topStub PySem.Challenge.pw_sumcraft_k14_rows_refused)=some (⟨hp6 w.params,#[],{},799,os⟩:Shared):=
 go_top (pc_pre w os) (piece_block (pc_blk w os) (by
  rw [body_is]
  exact piece_app (pc3 w os) (piece_app (pc4 w os) (piece_app (pc5 w os) (piece_app (pc6 w os) (piece_nil (pc_fin w os)))))))
noncomputable def KK (P:Params):Frag:=[(2,boot_o_2 P),(3,ob3''' P),(17,ob17 P),(23,ob23 P),(24,ob24'),(30,ob30 P),(36,ob36 P),(37,ob37),(42,ob42 P),(48,ob48 P),(49,ob49),(54,ob54 P),(60,ob60 P),(61,ob61),(66,ob66 P),(76,ob76),(77,ob77),(79,ob79 P),(80,ob80),(85,ob85 P),(91,ob91 P),(92,ob92),(97,ob97 P),(103,ob103 P),(104,ob104),(109,ob109 P),(115,ob115 P),(116,ob116),(121,ob121 P),(127,ob127 P),(128,ob128),(133,ob133 P),(139,ob139 P),(140,ob140),(145,ob145 P),(151,ob151 P),(152,ob152),(160,ob160),(161,ob161),(167,ob167),(168,ob168),(174,ob174),(175,ob175),(188,ob188),(189,ob189),(195,ob195),(196,ob196),(202,ob202),(203,ob203),(209,ob209),(210,ob210),(216,ob216),(217,ob217),(223,ob223),(224,ob224),(230,ob230),(231,ob231),(237,ob237),(238,ob238),(242,ob242),(243,ob243),(247,ob247),(248,ob248),(254,ob254),(255,ob255),(261,ob261),(262,ob262),(268,ob268),(269,ob269),(275,ob275),(276,ob276),(279,ob279 P),(287,ob287),(288,ob288),(294,ob294),(295,ob295),(299,ob299),(300,ob300),(302,ob302 P),(303,ob303),(313,ob313),(314,ob314),(320,ob320),(321,ob321),(327,ob327),(328,ob328),(334,ob334),(335,ob335),(341,ob341),(342,ob342),(348,ob348),(349,ob349),(355,ob355),(356,ob356),(362,ob362),(363,ob363),(369,ob369),(370,ob370),(374,ob374),(375,ob375),(379,ob379),(380,ob380),(384,ob384),(385,ob385),(389,ob389),(390,ob390),(394,ob394),(395,ob395),(401,ob401),(402,ob402),(408,ob408),(409,ob409),(413,ob413),(414,ob414),(418,ob418),(419,ob419),(425,ob425),(426,ob426),(432,ob432),(433,ob433),(437,ob437),(438,ob438),(442,ob442),(443,ob443),(447,ob447),(448,ob448)]
noncomputable def KA:List Addr:=[2,3,17,23,24,30,36,37,42,48,49,54,60,61,66,76,77,79,80,85,91,92,97,103,104,109,115,116,121,127,128,133,139,140,145,151,152,160,161,167,168,174,175,188,189,195,196,202,203,209,210,216,217,223,224,230,231,237,238,242,243,247,248,254,255,261,262,268,269,275,276,279,287,288,294,295,299,300,302,303,313,314,320,321,327,328,334,335,341,342,348,349,355,356,362,363,369,370,374,375,379,380,384,385,389,390,394,395,401,402,408,409,413,414,418,419,425,426,432,433,437,438,442,443,447,448]
noncomputable def qv:Program:=view PySem.Challenge.pw_sumcraft_k14_rows_refused [1,2,3,4,5,6,7,8,9,10,11,13,14,15,17,18,19,20,21,23,24,25,27,28,29,30,31,32,33,34,35,36,38,39,41,42,43,44,45,46,47,48,49,50,51,52,53,54,55,56,57,58,59,60,61,62,63]
def xt (s:Shared):Bool:=xlAt qv [] s && recOk (PySem.Challenge.rw_sumcraft_k14_rows_refused.row.toRowW).records s
def hk:Hook:=kHook KK KA fun _=>rfl
set_option maxHeartbeats 0 in
theorem left:LeftO PySem.Challenge.pw_sumcraft_k14_rows_refused qv [] xt hk.obs hk.val 8056:=
 LeftO.of_pieces (H₀:=boot_heap) (H₁:=hp6) (gs₁:=#[]) (d₁:={}) (k₁:=799)
  (boot_open (by kernel_rfl) rfl fun s=>by kernel_rfl)
  (fun w=>by kernel_rfl) run0 (by kernel_rfl)
  fun w=>by kernel_rfl
set_option maxHeartbeats 0 in
theorem h_well:PySem.Challenge.rw_sumcraft_k14_rows_refused.wellSaid=true:=by kernel_rfl
set_option maxHeartbeats 0 in
theorem h_bare:PySem.Challenge.rw_sumcraft_k14_rows_refused.row.prog.bare:=⟨rfl,rfl,rfl,rfl,rfl,by decide +kernel⟩
end My
namespace L2
open PySem PySem.Spec PyProof.Rows
abbrev Key:=Sum Int Str
def keyIs:Key->Value->Bool
 | .inl k,v=>Value.isInt k v
 | .inr x,v=>Value.isStrOf x v
def keyH (w:World):Key->Int
 | .inl k=>hashInt k
 | .inr x=>hashStr w x
theorem keyIs_shape:∀{k:Key} {v:Value},keyIs k v=true->(∃i t,k=Sum.inl i∧v=Value.int i t)∨(∃x t,k=Sum.inr x∧v=Value.str x t)
 | .inl i,v,h=>by
  obtain⟨t,e⟩:=Value.isInt_shape (k:=i) (v:=v) h
  exact .inl ⟨i,t,rfl,e⟩
 | .inr x,v,h=>by
  obtain⟨t,e⟩:=Value.isStrOf_shape (x:=x) (v:=v) h
  exact .inr ⟨x,t,rfl,e⟩
theorem key_ll (a b:Int):decide ((Sum.inl a:Key)=Sum.inl b)=(a == b):=by
 by_cases e:a=b
 ·subst e;simp
 ·have h:¬(Sum.inl a:Key)=Sum.inl b:=fun q=>e (Sum.inl.inj q)
  rw [decide_eq_false h]
  exact (beq_eq_false_iff_ne.mpr e).symm
theorem key_rr (a b:Str):decide ((Sum.inr a:Key)=Sum.inr b)=decide (a=b):=by
 by_cases e:a=b
 ·subst e;simp
 ·have h:¬(Sum.inr a:Key)=Sum.inr b:=fun q=>e (Sum.inr.inj q)
  rw [decide_eq_false h,decide_eq_false e]
theorem key_lr (a:Int) (b:Str):decide ((Sum.inl a:Key)=Sum.inr b)=false:=decide_eq_false (fun q=>nomatch q)
theorem key_rl (a:Str) (b:Int):decide ((Sum.inr a:Key)=Sum.inl b)=false:=decide_eq_false (fun q=>nomatch q)
def mixKind (prog:Program) (w:World):PySem.KeyKind prog w Key where
 is:=keyIs
 hash:=keyH w
 inj:=fun v a b ha hb=>by
  rcases keyIs_shape ha with ⟨i,t,rfl,rfl⟩ | ⟨x,t,rfl,rfl⟩
  ·rcases keyIs_shape hb with ⟨j,u,rfl,e⟩ | ⟨y,u,rfl,e⟩
   ·injection e with e1 _;rw [e1]
   ·exact nomatch e
  ·rcases keyIs_shape hb with ⟨j,u,rfl,e⟩ | ⟨y,u,rfl,e⟩
   ·exact nomatch e
   ·injection e with e1 _;rw [e1]
 byValue:=fun k v h=>by
  rcases keyIs_shape h with ⟨i,t,rfl,rfl⟩ | ⟨x,t,rfl,rfl⟩ <;> rfl
 pyHash:=fun hv h=>by
  rcases keyIs_shape hv with ⟨i,t,rfl,rfl⟩ | ⟨x,t,rfl,rfl⟩
  ·exact wpAny_pyHash_int h
  ·exact wpAny_pyHash_str h
 eqBool:=fun hu hv h=>by
  rcases keyIs_shape hu with ⟨i,t,rfl,rfl⟩ | ⟨x,t,rfl,rfl⟩
  ·rcases keyIs_shape hv with ⟨j,u,rfl,rfl⟩ | ⟨y,u,rfl,rfl⟩
   ·rw [key_ll] at h;exact wpAny_eqBool_int h
   ·rw [key_lr] at h;exact SeqAt.EqAt.int_str i t y u _ _ _ _ h
  ·rcases keyIs_shape hv with ⟨j,u,rfl,rfl⟩ | ⟨y,u,rfl,rfl⟩
   ·rw [key_rl] at h;exact SeqAt.EqAt.str_int x t j u _ _ _ _ h
   ·rw [key_rr] at h;exact wpAny_eqBool_str h
 «strs»:=fun k x t v h=>by
  rcases keyIs_shape h with ⟨i,u,rfl,e⟩ | ⟨y,u,rfl,e⟩
  ·exact nomatch e
  ·injection e with e1 _
   subst e1
   cases v <;> rfl
inductive V where
 | non | bl (b:Bool) | int (i:Int) | str (x:Str) | byt (b:Array UInt8) | flt (b:UInt64) | ref (a:Addr) | ty (n:String)
 deriving DecidableEq
def RelV:V->Value->Prop
 | .non,u=>u=Value.none
 | .bl b,u=>u=Value.bool b
 | .int i,u=>∃t,u=Value.int i t
 | .str x,u=>∃t,u=Value.str x t
 | .byt b,u=>∃t,u=Value.bytes b t
 | .flt b,u=>∃t,u=Value.float b t
 | .ref a,u=>u=Value.ref a
 | .ty n,u=>u=Value.type n
abbrev Vals:List V->List Value->Prop:=Paired RelV
theorem Vals.length {xs:List V} {us:List Value} (r:Vals xs us):xs.length=us.length:=Paired.length r
theorem Vals.get:∀{xs:List V} {us:List Value} {i:Nat} {x:V},Vals xs us->xs[i]?=some x->∃u,us[i]?=some u∧RelV x u
 | _,_,_,_,.nil,e=>by simp at e
 | _,_,0,_,.cons r _,e=>by simp at e;subst e;exact⟨_,rfl,r⟩
 | _,_,i+1,x,.cons _ t,e=>by
  obtain⟨u,h1,h2⟩:=Vals.get (i:=i) (x:=x) t (by simpa using e)
  exact⟨u,by simpa using h1,h2⟩
theorem Vals.set {x:V} {u:Value} (r:RelV x u):∀{xs:List V} {us:List Value} (i:Nat),Vals xs us->Vals (xs.set i x) (us.set i u)
 | _,_,_,.nil=>.nil
 | _,_,0,.cons _ t=>.cons r t
 | _,_,i+1,.cons q t=>.cons q (Vals.set r i t)
theorem Vals.append:∀{xs ys:List V} {us ws:List Value},Vals xs us->Vals ys ws->Vals (xs++ys) (us++ws)
 | _,_,_,_,.nil,s=>s
 | _,_,_,_,.cons r t,s=>.cons r (Vals.append t s)
theorem Vals.take:∀{xs:List V} {us:List Value} (n:Nat),Vals xs us->Vals (xs.take n) (us.take n)
 | _,_,0,_=>.nil
 | _,_,_+1,.nil=>.nil
 | _,_,n+1,.cons r t=>.cons r (Vals.take n t)
theorem Vals.drop:∀{xs:List V} {us:List Value} (n:Nat),Vals xs us->Vals (xs.drop n) (us.drop n)
 | _,_,0,r=>r
 | _,_,_+1,.nil=>.nil
 | _,_,n+1,.cons _ t=>Vals.drop n t
def RelO:Option V->Option Value->Prop
 | some v,some u=>RelV v u
 | none,none=>True
 | _,_=>False
def KV {κ:Type}:List (κ×V)->List (κ×Value)->Prop:=Paired fun (p:κ×V) (q:κ×Value)=>p.1=q.1∧RelV p.2 q.2
def kV:Key->V
 | .inl i=>.int i
 | .inr x=>.str x
inductive HO where
  | lst (xs:List V)
  | tup (xs:List V)
  | dK (kvs:List (Key×V)) | dT (kvs:List (List Key×V))
  | set (S:Int->Bool) (n:Nat)
  | ins (C dx:Addr) (fs:List (Str×V))
  | own (x:Addr)
  | xd (fs:List (Str×V))
  | met (f x:Addr)
  | rng (lo hi:Int)
  | frz (o:Obj) (u:HO)
  | tbl (ps:Array Value)
  | ext (φ:Heap->Prop)
abbrev Hp:=Addr->Option HO
def upd (H:Hp) (a:Addr) (o:HO):Hp:=fun b=>if b=a then some o else H b
theorem upd_same {H:Hp} {a:Addr} {o:HO}:upd H a o a=some o:=by unfold upd;rw [if_pos rfl]
theorem upd_ne {H:Hp} {a b:Addr} {o:HO} (h:b≠a):upd H a o b=H b:=by unfold upd;rw [if_neg h]
theorem upd_upd {H:Hp} {a:Addr} {o u:HO}:upd (upd H a o) a u=upd H a u:=by
 funext b;unfold upd;split <;> rfl
theorem ne_of {H:Hp} {a b:Addr} {o u:HO} (h:H a=some o) (h':H b=some u) (d:o≠u):a≠b:=by
 intro e;subst e;rw [h] at h';exact d (Option.some.inj h')
theorem ne_of_none {H:Hp} {a b:Addr} {o:HO} (h:H a=some o) (h':H b=none):a≠b:=by
 intro e;subst e;rw [h] at h';cases h'
section
variable (P:Program) (w:World)
def ObjOk (H:Hp) (h:Heap) (a:Addr):HO->Prop
 | .lst xs=>xs.length<=sizeLine∧∃(its:List Value) (n:Nat),Vals xs its∧h.get? a=some { cls:=.type "list",data:=.seq its.toArray n }
 | .tup xs=>xs.length<=sizeLine∧∃its:List Value,Vals xs its∧IsTup h a its.toArray
 | .dK kvs=>kvs.length<=sizeLine∧(a == sysModules)=false∧∃vs,KV kvs vs∧h.DictOf (mixKind P w) a vs
 | .dT kvs=>kvs.length<=sizeLine∧(a == sysModules)=false∧∃xs:List (List Key×Addr×Value),
   Paired (fun (p:List Key×V) (q:List Key×Addr×Value)=>p.1=q.1∧H q.2.1=some (.tup (p.1.map kV))∧RelV p.2 q.2.2) kvs xs∧
   ∃o es ep,h.get? a=some o∧o.ExactDict∧o.data=.dict es ep∧es.toList=xs.map (entryOfKey (tupleKind (mixKind P w)))∧(xs.map (·.1)).Nodup
 | .set S n=>h.SetOf (intKind P w) a S n
 | .ins C dx fs=>H dx=some (.own a)∧fs.length<=1000∧dx≠a∧h.get? a=some (PySem.W.instObj C dx)∧
   ∃mA,h.Ns1 dx mA∧(∀f,RelO (fs.lookup f) (mA f))∧PySem.Within mA (fs.map (·.1))
 | .own _=>∃o,h.get? a=some o
 | .xd fs=>∃mA,h.Ns1 a mA∧∀f,RelO (fs.lookup f) (mA f)
 | .rng lo hi=>∃t u v,h.get? a=some { cls:=.type "range",data:=.fields #[.int lo t,.int hi u,.int 1 v] }
 | .frz o u=>h.get? a=some o∧ObjOk H h a u
 | .tbl ps=>h.get? a=some { cls:=.none,data:=.fields ps }
 | .met f x=>h.get? a=some (PySem.W.methodObj (.ref f) (.ref x))
 | .ext φ=>φ h∧(∃o,h.get? a=some o)∧∀h1 h2:Heap,φ h1->(∀o,h1.get? a=some o->h2.get? a=some o)->φ h2
def HOk (H:Hp) (h:Heap):Prop:=∀a o,H a=some o->ObjOk P w H h a o
end
section
variable {P:Program} {w:World} {H H':Hp} {h h':Heap} {a:Addr} {o:HO}
theorem ObjOk.lt (x:ObjOk P w H h a o):a < h.objs.size:=by
 cases o with
 | lst xs=>obtain⟨_,_,_,_,e⟩:=x;exact Heap.lt_size e
 | tup xs=>obtain⟨_,_,_,p⟩:=x;exact p.lt
 | dK kvs=>obtain⟨_,_,_,_,o,_,_,e,_⟩:=x;exact Heap.lt_size e
 | dT kvs=>obtain⟨_,_,_,_,o,_,_,e,_⟩:=x;exact Heap.lt_size e
 | set S n=>obtain⟨o,_,_,_,e,_⟩:=x;exact Heap.lt_size e
 | ins C dx fs=>obtain⟨_,_,_,e,_⟩:=x;exact Heap.lt_size e
 | own y=>obtain⟨_,e⟩:=x;exact Heap.lt_size e
 | xd fs=>obtain⟨_,⟨_,_,_,e,_⟩,_⟩:=x;exact Heap.lt_size e
 | rng lo hi=>obtain⟨_,_,_,e⟩:=x;exact Heap.lt_size e
 | frz ob u=>obtain⟨e,_⟩:=x;exact Heap.lt_size e
 | tbl ps=>exact Heap.lt_size (show h.get? a=some _ from x)
 | met f y=>exact Heap.lt_size (show h.get? a=some _ from x)
 | ext φ=>obtain⟨_,⟨_,e⟩,_⟩:=x;exact Heap.lt_size e
theorem Paired.mapP {α β:Type} {F G:α->β->Prop}:∀{l₁:List α} {l₂:List β},Paired F l₁ l₂->(∀a b,F a b->G a b)->Paired G l₁ l₂
 | _,_,.nil,_=>.nil
 | _,_,.cons r t,f=>.cons (f _ _ r) (Paired.mapP t f)
theorem ObjOk.stay (x:ObjOk P w H h a o) (k:∀b u,(b=a∨H b=some (.own a))->h.get? b=some u->h'.get? b=some u)
  (ho:∀b,H b=some (.own a)->H' b=some (.own a)) (ht:∀b xs,H b=some (.tup xs)->H' b=some (.tup xs)):ObjOk P w H' h' a o:=by
 induction o with
 | lst xs=>obtain⟨z,its,n,r,e⟩:=x;exact⟨z,its,n,r,k _ _ (.inl rfl) e⟩
 | tup xs=>obtain⟨z,its,r,ob,e,c⟩:=x;exact⟨z,its,r,ob,k _ _ (.inl rfl) e,c⟩
 | dK kvs=>obtain⟨z,y,vs,r,ob,es,ep,e,c⟩:=x;exact⟨z,y,vs,r,ob,es,ep,k _ _ (.inl rfl) e,c⟩
 | dT kvs=>
  obtain⟨z,y,xs,r,ob,es,ep,e,c⟩:=x
  exact⟨z,y,xs,Paired.mapP r fun p q z=>⟨z.1,ht _ _ z.2.1,z.2.2⟩,ob,es,ep,k _ _ (.inl rfl) e,c⟩
 | set S n=>obtain⟨ob,es,ep,t,e,c⟩:=x;exact⟨ob,es,ep,t,k _ _ (.inl rfl) e,c⟩
 | ins C dx fs=>
  obtain⟨d,z,ne,e,mA,⟨od,es,ep,e2,c⟩,r⟩:=x
  exact⟨ho _ d,z,ne,k _ _ (.inl rfl) e,mA,⟨od,es,ep,k _ _ (.inr d) e2,c⟩,r⟩
 | own y=>obtain⟨ob,e⟩:=x;exact⟨ob,k _ _ (.inl rfl) e⟩
 | xd fs=>obtain⟨mA,⟨od,es,ep,e,c⟩,r⟩:=x;exact⟨mA,⟨od,es,ep,k _ _ (.inl rfl) e,c⟩,r⟩
 | rng lo hi=>obtain⟨t,u,v,e⟩:=x;exact⟨t,u,v,k _ _ (.inl rfl) e⟩
 | frz ob u ih=>obtain⟨e,q⟩:=x;exact⟨k _ _ (.inl rfl) e,ih q⟩
 | tbl ps=>
  have e:h.get? a=some { cls:=.none,data:=.fields ps }:=x
  show h'.get? a=some { cls:=.none,data:=.fields ps }
  exact k a _ (.inl rfl) e
 | met f y=>
  have e:h.get? a=some (PySem.W.methodObj (.ref f) (.ref y)):=x
  show h'.get? a=some (PySem.W.methodObj (.ref f) (.ref y))
  exact k a _ (.inl rfl) e
 | ext φ=>obtain⟨p,⟨o,e⟩,st⟩:=x;exact⟨st _ _ p fun o q=>k _ _ (.inl rfl) q,⟨o,k _ _ (.inl rfl) e⟩,st⟩
theorem HOk.lt (x:HOk P w H h) (e:H a=some o):a < h.objs.size:=(x a o e).lt
theorem HOk.fresh (x:HOk P w H h) (e:h.objs.size<=a):H a=none:=by
 cases q:H a with
 | none=>rfl
 | some u=>exact absurd (Nat.lt_of_lt_of_le (x.lt q) e) (Nat.lt_irrefl _)
theorem HOk.kept (x:HOk P w H h) (k:∀b u,h.get? b=some u->h'.get? b=some u):HOk P w H h':=fun a o e=>
 (x a o e).stay (fun b u _ q=>k b u q) (fun _ q=>q) fun _ _ q=>q
theorem HOk.laid (x:HOk P w H h) (k:∀b u,h.get? b=some u->h'.get? b=some u) (hp:h.objs.size<=a) (new:ObjOk P w (upd H a o) h' a o):HOk P w (upd H a o) h':=fun b u e=>by
 have hn:=x.fresh hp
 by_cases hb:b=a
 ·subst hb;rw [upd_same] at e;cases e;exact new
 ·rw [upd_ne hb] at e
  exact (x b u e).stay (fun c v _ q=>k c v q) (fun c q=>by rw [upd_ne (ne_of_none q hn)];exact q) fun c xs q=>by rw [upd_ne (ne_of_none q hn)];exact q
end
def Rd (H:Hp) (a:Addr) (u:HO):Prop:=H a=some u∨∃o,H a=some (.frz o u)
theorem Rd.ok {P:Program} {w:World} {H:Hp} {h:Heap} {a:Addr} {u:HO} (r:Rd H a u) (x:HOk P w H h):ObjOk P w H h a u:=by
 rcases r with r | ⟨o,r⟩
 ·exact x a u r
 ·obtain⟨_,q⟩:=x a _ r
  exact q
def Mut:Option HO->Prop
 | some (.lst _)=>True
 | some (.dK _)=>True
 | some (.dT _)=>True
 | some (.set _ _)=>True
 | some (.ins _ _ _)=>True
 | some (.ext _)=>True
 | _=>False
section
variable {P:Program} {w:World} {H:Hp} {h h':Heap} {x e:Addr} {o':HO}
theorem HOk.write (ok:HOk P w H h) (mu:Mut (H x)) (he:e=x∨H e=some (.own x)) (k:∀b u,b≠e->h.get? b=some u->h'.get? b=some u) (heo:∃u,h'.get? e=some u)
  (new:ObjOk P w (upd H x o') h' x o'):HOk P w (upd H x o') h':=fun b u q=>by
 have nown:∀c y,H c=some (.own y)->c≠x:=fun c y r z=>by subst z;rw [r] at mu;exact mu
 have ntup:∀c xs,H c=some (.tup xs)->c≠x:=fun c xs r z=>by subst z;rw [r] at mu;exact mu
 by_cases hb:b=x
 ·subst hb;rw [upd_same] at q;cases q;exact new
 ·rw [upd_ne hb] at q
  by_cases hbe:b=e
  ·have q':H b=some (.own x):=by
    rcases he with z | z
    ·exact absurd (hbe.trans z) hb
    ·rw [hbe];exact z
   rw [q] at q';cases q'
   obtain⟨v,hv⟩:=heo
   exact⟨v,by rw [hbe];exact hv⟩
  ·refine (ok b u q).stay (fun c v hc r=>k c v ?_ r) (fun c r=>by rw [upd_ne (nown c b r)];exact r) fun c xs r=>by rw [upd_ne (ntup c xs r)];exact r
   rcases hc with rfl | hc
   ·exact hbe
   ·rintro rfl
    rcases he with z | z
    ·exact nown c b hc z
    ·rw [hc] at z;cases z;exact hb rfl
end
structure Un (fs ex:List Addr) (H H':Hp) (h h':Heap):Prop where
 keep:∀b o,h.get? b=some o->H b=none->b∉fs->b∉ex->h'.get? b=some o
 slot:∀b o,h.get? b=some o->H b=none->b∈fs->b∉ex->∃sl,h'.get? b=some { o with slots:=sl }
 free:∀b o,h.get? b=some o->H b=none->b∉ex->H' b=none
 there:∀b o,h.get? b=some o->b∉ex->∃o',h'.get? b=some o'
 tups:∀b xs,H b=some (.tup xs)->H' b=some (.tup xs)
 frzs:∀b o u,H b=some (.frz o u)->H' b=some (.frz o u)
 tbls:∀b ps,H b=some (.tbl ps)->∃more,H' b=some (.tbl (ps++more))
section
variable {fs fs' ex ex':List Addr} {H H1 H2:Hp} {h h1 h2 h':Heap} {a x e:Addr} {o:HO}
theorem Un.any (u:Un fs ex H H1 h h1) {b:Addr} {ob:Obj} (q:h.get? b=some ob) (n:H b=none) (hx:b∉ex):∃sl,h1.get? b=some { ob with slots:=sl }:=by
 by_cases hb:b∈fs
 ·exact u.slot b ob q n hb hx
 ·exact⟨ob.slots,u.keep b ob q n hb hx⟩
theorem Un.trans (a:Un fs ex H H1 h h1) (b:Un fs ex H1 H2 h1 h2):Un fs ex H H2 h h2 where
 keep:=fun c ob q n hc hx=>b.keep c ob (a.keep c ob q n hc hx) (a.free c ob q n hx) hc hx
 slot:=fun c ob q n hc hx=>by
  obtain⟨sl,e1⟩:=a.slot c ob q n hc hx
  obtain⟨sl',e2⟩:=b.slot c _ e1 (a.free c ob q n hx) hc hx
  exact⟨sl',e2⟩
 free:=fun c ob q n hx=>by
  obtain⟨o',e1⟩:=a.there c ob q hx
  exact b.free c o' e1 (a.free c ob q n hx) hx
 there:=fun c ob q hx=>by
  obtain⟨o',e1⟩:=a.there c ob q hx
  exact b.there c o' e1 hx
 tups:=fun c xs q=>b.tups c xs (a.tups c xs q)
 frzs:=fun c ob xs q=>b.frzs c ob xs (a.frzs c ob xs q)
 tbls:=fun c ps q=>by
  obtain⟨m1,e1⟩:=a.tbls c ps q
  obtain⟨m2,e2⟩:=b.tbls c _ e1
  exact⟨m1++m2,by rw [e2,Array.append_assoc]⟩
theorem Un.kept (k:∀b u,h.get? b=some u->h'.get? b=some u):Un fs ex H H h h':=
 ⟨fun b ob q _ _ _=>k b ob q,fun b ob q _ _ _=>⟨ob.slots,k b ob q⟩,fun _ _ _ n _=>n,fun b ob q _=>⟨ob,k b ob q⟩,fun _ _ q=>q,fun _ _ _ q=>q,fun _ ps q=>⟨#[],by rw [q];simp⟩⟩
theorem Un.refl:Un fs ex H H h h:=Un.kept fun _ _ q=>q
theorem Un.laid (k:∀b u,h.get? b=some u->h'.get? b=some u) (hp:h.objs.size<=a) (hn:H a=none):Un fs ex H (upd H a o) h h' where
 keep:=fun b u q _ _ _=>k b u q
 slot:=fun b u q _ _ _=>⟨u.slots,k b u q⟩
 free:=fun b u q n _=>by rw [upd_ne (Nat.ne_of_lt (Nat.lt_of_lt_of_le (Heap.lt_size q) hp))];exact n
 there:=fun b u q _=>⟨u,k b u q⟩
 tups:=fun b xs q=>by rw [upd_ne (ne_of_none q hn)];exact q
 frzs:=fun b u xs q=>by rw [upd_ne (ne_of_none q hn)];exact q
 tbls:=fun b ps q=>⟨#[],by rw [upd_ne (ne_of_none q hn),q];simp⟩
theorem Un.write (mu:Mut (H x)) (he:e=x∨H e=some (.own x)) (k:∀b u,b≠e->h.get? b=some u->h'.get? b=some u) (heo:∃u,h'.get? e=some u):Un fs ex H (upd H x o) h h':=by
 have hx:∀b,H b=none->b≠x:=fun b n z=>by subst z;rw [n] at mu;exact mu
 have hb:∀b,H b=none->b≠e:=fun b n z=>by
  subst z
  rcases he with r | r
  ·exact hx b n r
  ·rw [n] at r;cases r
 have hm:∀b u,H b=some u->¬Mut (some u)->b≠x:=fun b u q nm z=>by subst z;rw [q] at mu;exact nm mu
 refine⟨fun b u q n _ _=>k b u (hb b n) q,fun b u q n _ _=>⟨u.slots,k b u (hb b n) q⟩,fun b u q n _=>by rw [upd_ne (hx b n)];exact n,fun b u q _=>?_,
  fun b xs q=>by rw [upd_ne (hm b _ q fun z=>z)];exact q,fun b u xs q=>by rw [upd_ne (hm b _ q fun z=>z)];exact q,fun b ps q=>⟨#[],by rw [upd_ne (hm b _ q fun z=>z),q];simp⟩⟩
 by_cases hbe:b=e
 ·subst hbe;exact heo
 ·exact⟨u,k b u hbe q⟩
end
def trk (h:Heap) (H:Hp):List Addr:=(List.range h.objs.size).filter fun a=>(H a).isSome
def hidT (h:Heap) (H:Hp):Heap:=PySem.W.hideAll h (trk h H)
theorem hidT_size (h:Heap) (H:Hp):(hidT h H).objs.size=h.objs.size:=PySem.W.hideAll_size _ _
theorem hidT_get {h:Heap} {H:Hp} {b:Addr} {o:Obj} (e:h.get? b=some o) (n:H b=none):(hidT h H).get? b=some o:=
 PySem.W.hideAll_get _ e fun hm=>by
  have q:(H b).isSome=true:=(List.mem_filter.mp hm).2
  rw [n] at q;simp at q
theorem of_hidT {h:Heap} {H:Hp} {b:Addr} {o:Obj} (e:(hidT h H).get? b=some o):h.get? b=some o∧H b=none:=by
 have e':h.get? b=some o:=PySem.W.of_hideAll (trk h H) e
 refine⟨e',?_⟩
 cases q:H b with
 | none=>rfl
 | some x=>
  have hm:b∈trk h H:=List.mem_filter.mpr ⟨List.mem_range.mpr (Heap.lt_size e'),by simp [q]⟩
  have z:(hidT h H).get? b=none:=PySem.W.hideAll_none (trk h H) hm
  rw [z] at e;cases e
def allNews (g h:Heap) (L:Addr):List (Addr×Obj):=(List.range h.objs.size).filterMap fun a=>if a=L∨(g.get? a).isSome=true then none else (h.get? a).map fun o=>(a,o)
def rest (g h:Heap) (L d:Addr):List (Addr×Obj):=(allNews g h L).filter fun p=>decide (p.1≠d)
structure Mod (K:W.Frag) (mg:Str->Option Value) (base:Heap):Prop where
 kin:K.In base
 glob:base.Ns mainGlobals mg
 blt:∃mb,base.Ns builtinsNs mb∧∀x:Str,x ≠ "__name__" -> mb x=bootBuiltins x
 nolimit:base.NoLimit
structure Cx where
 prog:Program
 w:World
 K:W.Frag
 mg:Str->Option Value
 base:Heap
 A:Around
 N:List Str
 s₀:Shared
 H₀:Hp
 env:Env
 outer:List Env
 stack:List Env
 ex:List Addr
 fn:Str->Bool
 calm:Bool
 pn:List (Addr×Obj)
 xe:Value->Shared->Prop
def frs (l:List Env):List Addr:=l.filterMap (·.frame)
abbrev Cx.fs (X:Cx):List Addr:=frs X.outer
def Vis (sc:Scope) (x:Str):Prop:=sc.names.lookup x=some .local∨sc.names.lookup x=some .cell∨sc.names.lookup x=some .free
def Loc (sc:Scope) (x:Str):Prop:=sc.names.lookup x=some .local∨sc.names.lookup x=some .cell
def Look (env:Env) (h:Heap) (m:Str->Option Value) (x:Str) (u:Value):Prop:=
 (env.kindOf x=some .local∧m x=some u)∨((env.kindOf x=some .cell∨env.kindOf x=some .free)∧∃c,env.cells.lookup x=some c∧h.IsCell c (some u))
structure Cx.Ok (X:Cx):Prop where
 mod:Mod X.K X.mg X.base
 kind:X.env.scope.kind=.function
 glob:X.env.globals=mainGlobals
 blt:X.env.builtins=builtinsNs
 above:X.s₀.heap.objs.size<=X.env.locals
 inj:∀x y c,X.env.cells.lookup x=some c->X.env.cells.lookup y=some c->x=y
 has:∀x,(X.env.kindOf x=some .cell∨X.env.kindOf x=some .free)->∃c,X.env.cells.lookup x=some c
 cab:∀x c,X.fn x=true->X.env.cells.lookup x=some c->X.s₀.heap.objs.size<=c
 hd:X.calm=true->X.A.handled=none
 frames:X.A.frames=some X.stack
 stk:X.stack=X.outer∨(X.stack=X.env :: X.outer∧X.env.frame=some X.env.locals)
 exf:∀b∈X.ex,b≠X.env.locals∧∀x c,X.env.cells.lookup x=some c->c≠b
 bs:∀b o,X.base.get? b=some o->X.s₀.heap.get? b=some o∧X.H₀ b=none
 bsz:X.base.objs.size<=X.s₀.heap.objs.size
 noex:∀b o,X.base.get? b=some o->b∉X.ex
 exfs:∀b∈X.ex,b∉X.fs
 funs:X.s₀.heap.FunFrames X.base X.outer
 frf:∀b∈X.fs,X.H₀ b=none
structure Inv (X:Cx) (pins:List (Addr×Obj)) (σ:List (Option V)) (H:Hp) (s:Shared):Prop where
 ok:X.Ok
 os:s.os=X.s₀.os
 bare:AllBare s.gens
 base:Un X.fs X.ex X.H₀ H X.s₀.heap s.heap
 loc:∃m,s.heap.Ns X.env.locals m∧∀(i:Nat) (x:Str) (v:V),X.N[i]?=some x->σ[i]?=some (some v)->Vis X.env.scope x->∃u,RelV v u∧Look X.env s.heap m x u
 cell:∀x c,X.env.cells.lookup x=some c->∃v,s.heap.IsCell c v
 free:H X.env.locals=none
 freeC:∀x c,X.env.cells.lookup x=some c->H c=none
 pin:∀p∈X.pn++pins,s.heap.get? p.1=some p.2∧H p.1=none∧p.1≠X.env.locals∧p.1∉X.fs∧∀v,p.2.data≠.cell v
 hok:HOk X.prog X.w H s.heap
 len:σ.length=X.N.length
section
variable {X:Cx} {pins:List (Addr×Obj)} {σ:List (Option V)} {H H':Hp} {s:Shared} {h':Heap}
theorem Cx.Ok.nofr (ok:X.Ok) {b:Addr} {o:Obj} (e:X.base.get? b=some o):b∉X.fs:=fun hb=>by
 have:=(ok.funs.mem hb).1
 rw [e] at this;cases this
theorem Inv.bs (I:Inv X pins σ H s):∀b o,X.base.get? b=some o->s.heap.get? b=some o∧H b=none:=fun b o e=>
 ⟨I.base.keep b o (I.ok.bs b o e).1 (I.ok.bs b o e).2 (I.ok.nofr e) (I.ok.noex b o e),I.base.free b o (I.ok.bs b o e).1 (I.ok.bs b o e).2 (I.ok.noex b o e)⟩
theorem Inv.bk (I:Inv X pins σ H s):∀b o,X.base.get? b=some o->s.heap.get? b=some o:=fun b o e=>(I.bs b o e).1
theorem Inv.mod (I:Inv X pins σ H s):Mod X.K X.mg X.base:=I.ok.mod
theorem Inv.kIn (I:Inv X pins σ H s):X.K.In s.heap:=I.ok.mod.kin.keeps I.bk
theorem Inv.lt (I:Inv X pins σ H s):X.env.locals < s.heap.objs.size:=let ⟨_,hn,_⟩:=I.loc;hn.lt
theorem Inv.sz (I:Inv X pins σ H s):X.s₀.heap.objs.size<=s.heap.objs.size:=Nat.le_trans I.ok.above (Nat.le_of_lt I.lt)
theorem Inv.nofs (I:Inv X pins σ H s) {a:Addr} (h:s.heap.objs.size<=a):a∉X.fs:=fun hb=>by
 obtain⟨_,o,ho,_⟩:=I.ok.funs.mem hb
 exact absurd (Nat.lt_of_lt_of_le (Heap.lt_size ho) (Nat.le_trans I.sz h)) (Nat.lt_irrefl _)
theorem Inv.cne (I:Inv X pins σ H s):∀x c,X.env.cells.lookup x=some c->c≠X.env.locals:=fun x c e z=>by
 obtain⟨v,o,ho,hd⟩:=I.cell x c e
 obtain⟨m,⟨o',es,ep,ho',hd',_⟩,_⟩:=I.loc
 rw [z,ho'] at ho;cases ho;rw [hd'] at hd;cases hd
theorem Inv.funs (I:Inv X pins σ H s):s.heap.FunFrames X.base X.outer:=by
 have all:∀(l:List Env),(∀b∈frs l,b∈X.fs)->X.s₀.heap.FunFrames X.base l->s.heap.FunFrames X.base l:=by
  intro l
  induction l with
  | nil=>intro _ _;trivial
  | cons env r ih=>
   intro hs hl
   obtain⟨hk,⟨L,o,hf,hn,ho,hd⟩,hr⟩:=hl
   have hL:L∈X.fs:=hs L (by unfold frs;rw [List.filterMap_cons,hf];exact List.mem_cons_self)
   obtain⟨sl,e⟩:=I.base.slot L o ho (I.ok.frf L hL) hL fun z=>I.ok.exfs L z hL
   exact⟨hk,⟨L,_,hf,hn,e,hd⟩,ih (fun b hb=>hs b (by unfold frs;rw [List.filterMap_cons,hf];exact List.mem_cons_of_mem _ hb)) hr⟩
 exact all X.outer (fun _ hb=>hb) I.ok.funs
theorem Inv.stack (I:Inv X pins σ H s):s.heap.FunFrames X.base X.stack:=by
 rcases I.ok.stk with e | ⟨e,hf⟩
 ·rw [e];exact I.funs
 ·rw [e]
  obtain⟨m,hn,_⟩:=I.loc
  refine .cons (by rw [I.ok.kind];decide) hf hn ?_ I.funs
  exact Heap.get?_none_of_le (Nat.le_trans I.ok.bsz I.ok.above)
theorem Inv.stkSub (I:Inv X pins σ H s):∀b∈frs X.stack,b∈X.env.locals :: X.fs:=fun b hb=>by
 rcases I.ok.stk with e | ⟨e,hf⟩
 ·rw [e] at hb;exact List.mem_cons_of_mem _ hb
 ·rw [e] at hb
  unfold frs at hb
  rw [List.filterMap_cons,hf] at hb
  exact hb
theorem Inv.stkFree (I:Inv X pins σ H s):∀b∈frs X.stack,H b=none:=fun b hb=>by
 rcases List.mem_cons.mp (I.stkSub b hb) with e | hb
 ·rw [e];exact I.free
 ·obtain⟨_,o,ho,_⟩:=I.ok.funs.mem hb
  exact I.base.free b o ho (I.ok.frf b hb) fun z=>I.ok.exfs b z hb
theorem Inv.step {g':Array GenState} {t':Nat} {d':Drawn} {ch:List Addr} (I:Inv X pins σ H s)
  (hch:∀b∈ch,(b∈X.ex∨X.s₀.heap.objs.size<=b)∧b≠X.env.locals∧(∀x c,X.env.cells.lookup x=some c->c≠b)∧∀p∈X.pn++pins,p.1≠b)
  (keep:∀b o,b≠X.env.locals->b∉X.fs->b∉ch->s.heap.get? b=some o->H b=none->h'.get? b=some o)
  (slot:∀b o,b≠X.env.locals->b∈X.fs->b∉ch->s.heap.get? b=some o->H b=none->∃sl,h'.get? b=some { o with slots:=sl }) (free:∀b o,b∉ch->s.heap.get? b=some o->H b=none->H' b=none)
  (there:∀b o,b∉ch->s.heap.get? b=some o->∃o',h'.get? b=some o')
  (tups:∀b xs,H b=some (.tup xs)->H' b=some (.tup xs)) (frzs:∀b o u,H b=some (.frz o u)->H' b=some (.frz o u)) (tbls:∀b ps,H b=some (.tbl ps)->∃more,H' b=some (.tbl (ps++more)))
  (ns:∀m,s.heap.Ns X.env.locals m->h'.Ns X.env.locals m) (hok:HOk X.prog X.w H' h') (hg:AllBare g'):
  Inv X pins σ H' { s with heap:=h',gens:=g',drawn:=d',toks:=t' }:=by
 have neL:∀b o,X.s₀.heap.get? b=some o->b≠X.env.locals:=fun b o e=>Nat.ne_of_lt (Nat.lt_of_lt_of_le (Heap.lt_size e) I.ok.above)
 have neC:∀b o,X.s₀.heap.get? b=some o->b∉X.ex->b∉ch:=fun b o e hx hb=>by
  rcases (hch b hb).1 with z | z
  ·exact hx z
  ·exact absurd (Nat.lt_of_lt_of_le (Heap.lt_size e) z) (Nat.lt_irrefl _)
 have cellK:∀x c,X.env.cells.lookup x=some c->∀v,s.heap.IsCell c v->h'.IsCell c v:=fun x c e v ⟨o,ho,hd⟩=>by
  have nch:c∉ch:=fun z=>(hch c z).2.2.1 x c e rfl
  by_cases hc:c∈X.fs
  ·obtain⟨sl,q⟩:=slot c o (I.cne x c e) hc nch ho (I.freeC x c e)
   exact⟨_,q,hd⟩
  ·exact⟨o,keep c o (I.cne x c e) hc nch ho (I.freeC x c e),hd⟩
 refine⟨I.ok,I.os,hg,⟨fun b o e n hb hx=>?_,fun b o e n hb hx=>?_,fun b o e n hx=>?_,fun b o e hx=>?_,fun b xs e=>tups b xs (I.base.tups b xs e),fun b o xs e=>frzs b o xs (I.base.frzs b o xs e),fun b ps e=>?_⟩,?_,fun x c e=>?_,?_,fun x c e=>?_,fun p hp=>?_,hok,I.len⟩
 ·exact keep b o (neL b o e) hb (neC b o e hx) (I.base.keep b o e n hb hx) (I.base.free b o e n hx)
 ·obtain⟨sl,e1⟩:=I.base.slot b o e n hb hx
  obtain⟨sl',e2⟩:=slot b _ (neL b o e) hb (neC b o e hx) e1 (I.base.free b o e n hx)
  exact⟨sl',e2⟩
 ·obtain⟨o',e1⟩:=I.base.there b o e hx
  exact free b o' (neC b o e hx) e1 (I.base.free b o e n hx)
 ·obtain⟨o',e1⟩:=I.base.there b o e hx
  exact there b o' (neC b o e hx) e1
 ·obtain⟨m1,e1⟩:=I.base.tbls b ps e
  obtain⟨m2,e2⟩:=tbls b _ e1
  exact⟨m1++m2,by rw [e2,Array.append_assoc]⟩
 ·obtain⟨m,hn,hl⟩:=I.loc
  refine⟨m,ns m hn,fun i x v e1 e2 e3=>?_⟩
  obtain⟨u,r,l⟩:=hl i x v e1 e2 e3
  refine⟨u,r,?_⟩
  rcases l with l | ⟨k,c,e,z⟩
  ·exact .inl l
  ·exact .inr ⟨k,c,e,cellK x c e _ z⟩
 ·obtain⟨v,z⟩:=I.cell x c e
  exact⟨v,cellK x c e v z⟩
 ·obtain⟨m,⟨o,_,_,ho,_⟩,_⟩:=I.loc
  exact free _ o (fun z=>(hch _ z).2.1 rfl) ho I.free
 ·obtain⟨v,o,ho,hd⟩:=I.cell x c e
  exact free c o (fun z=>(hch c z).2.2.1 x c e rfl) ho (I.freeC x c e)
 ·obtain⟨e,n,ne,nf,d⟩:=I.pin p hp
  have nch:p.1∉ch:=fun z=>(hch p.1 z).2.2.2 p hp rfl
  exact⟨keep p.1 p.2 ne nf nch e n,free p.1 p.2 nch e n,ne,nf,d⟩
theorem Inv.un {t':Nat} (I:Inv X pins σ H s) (u:Un X.fs [] H H' s.heap h') (hok:HOk X.prog X.w H' h'):Inv X pins σ H' { s with heap:=h',toks:=t' }:=by
 obtain⟨m,⟨o,es,ep,ho,r⟩,_⟩:=id I.loc
 obtain⟨sl,hL⟩:=u.any ho I.free (by simp)
 exact I.step (g':=s.gens) (d':=s.drawn) (ch:=[]) (fun _ z=>nomatch z) (fun b o _ hb _ e n=>u.keep b o e n hb (by simp)) (fun b o _ hb _ e n=>u.slot b o e n hb (by simp)) (fun b o _ e n=>u.free b o e n (by simp)) (fun b o _ e=>u.there b o e (by simp)) u.tups u.frzs u.tbls (fun m' hm=>by
  obtain⟨o',es',ep',ho',r'⟩:=hm
  rw [ho] at ho';cases ho'
  exact⟨_,es',ep',hL,r'⟩) hok I.bare
theorem Inv.call {g':Array GenState} {t':Nat} {d':Drawn} {ch:List Addr} (I:Inv X pins σ H s) (u:Un (frs X.stack) ch H H' s.heap h') (hok:HOk X.prog X.w H' h') (hg:AllBare g')
  (hch:∀b∈ch,(b∈X.ex∨X.s₀.heap.objs.size<=b)∧b≠X.env.locals∧(∀x c,X.env.cells.lookup x=some c->c≠b)∧∀p∈X.pn++pins,p.1≠b):
  Inv X pins σ H' { s with heap:=h',gens:=g',drawn:=d',toks:=t' }:=by
 obtain⟨m,⟨o,es,ep,ho,r⟩,_⟩:=id I.loc
 obtain⟨sl,hL⟩:=u.any ho I.free fun z=>(hch _ z).2.1 rfl
 exact I.step (ch:=ch) hch (fun b o hL hb hc e n=>u.keep b o e n (fun z=>(List.mem_cons.mp (I.stkSub b z)).elim hL hb) hc) (fun b o _ _ hc e n=>u.any e n hc) (fun b o hc e n=>u.free b o e n hc) (fun b o hc e=>u.there b o e hc) u.tups u.frzs u.tbls (fun m' hm=>by
  obtain⟨o',es',ep',ho',r'⟩:=hm
  rw [ho] at ho';cases ho'
  exact⟨_,es',ep',hL,r'⟩) hok hg
theorem Inv.turned {t':Nat} {it:Addr} (I:Inv X pins σ H s) (k:∀b o,b≠it->s.heap.get? b=some o->h'.get? b=some o) (hn:H it=none) (hL:it≠X.env.locals)
  (h1:it∈X.ex∨X.s₀.heap.objs.size<=it) (h2:∀x c,X.env.cells.lookup x=some c->c≠it) (h3:∀p∈X.pn++pins,p.1≠it):Inv X pins σ H { s with heap:=h',toks:=t' }:=by
 have nit:∀b u,H b=some u->b≠it:=fun b u e z=>by rw [z,hn] at e;cases e
 refine I.step (g':=s.gens) (d':=s.drawn) (ch:=[it]) (fun b hb=>?_) (fun b o _ _ hc e _=>k b o (fun z=>hc (by simp [z])) e) (fun b o _ _ hc e _=>⟨o.slots,k b o (fun z=>hc (by simp [z])) e⟩) (fun _ _ _ _ n=>n)
  (fun b o hc e=>⟨o,k b o (fun z=>hc (by simp [z])) e⟩) (fun _ _ e=>e) (fun _ _ _ e=>e) (fun b ps e=>⟨#[],by rw [e];simp⟩) (fun m hm=>?_) (fun b u e=>?_) I.bare
 ·have e:b=it:=by simpa using hb
  subst e
  exact⟨h1,hL,h2,h3⟩
 ·obtain⟨o,es,ep,ho,r⟩:=hm
  exact⟨o,es,ep,k _ o (Ne.symm hL) ho,r⟩
 ·refine (I.hok b u e).stay (fun c v hc q=>k c v ?_ q) (fun _ q=>q) fun _ _ q=>q
  rcases hc with z | z
  ·rw [z];exact nit b u e
  ·exact nit c _ z
theorem Inv.tok (I:Inv X pins σ H s) (t:Nat):Inv X pins σ H { s with toks:=t }:=I.un (h':=s.heap) (t':=t) Un.refl I.hok
theorem Inv.kept {t':Nat} (I:Inv X pins σ H s) (k:∀b u,s.heap.get? b=some u->h'.get? b=some u):Inv X pins σ H { s with heap:=h',toks:=t' }:=I.un (Un.kept k) (I.hok.kept k)
theorem Inv.laid {a:Addr} {o:HO} {t':Nat} (I:Inv X pins σ H s) (k:∀b u,s.heap.get? b=some u->h'.get? b=some u) (hp:s.heap.objs.size<=a) (new:ObjOk X.prog X.w (upd H a o) h' a o):
  Inv X pins σ (upd H a o) { s with heap:=h',toks:=t' }:=I.un (Un.laid k hp (I.hok.fresh hp)) (I.hok.laid k hp new)
theorem Inv.write {x e:Addr} {o:HO} {t':Nat} (I:Inv X pins σ H s) (mu:Mut (H x)) (he:e=x∨H e=some (.own x)) (k:∀b u,b≠e->s.heap.get? b=some u->h'.get? b=some u) (heo:∃u,h'.get? e=some u)
  (new:ObjOk X.prog X.w (upd H x o) h' x o):Inv X pins σ (upd H x o) { s with heap:=h',toks:=t' }:=I.un (Un.write mu he k heo) (I.hok.write mu he k heo new)
theorem Inv.pins_of {pins':List (Addr×Obj)} (I:Inv X pins σ H s) (h:∀p∈pins',s.heap.get? p.1=some p.2∧H p.1=none∧p.1≠X.env.locals∧p.1∉X.fs∧∀v,p.2.data≠.cell v):Inv X pins' σ H s:=
 ⟨I.ok,I.os,I.bare,I.base,I.loc,I.cell,I.free,I.freeC,fun p hp=>(List.mem_append.mp hp).elim (fun z=>I.pin p (List.mem_append_left _ z)) (h p),I.hok,I.len⟩
theorem nodup_ix {N:List Str} (hN:N.Nodup) {i j:Nat} {x:Str} (a:N[i]?=some x) (b:N[j]?=some x):i=j:=by
 obtain⟨h1,e1⟩:=List.getElem?_eq_some_iff.mp a
 obtain⟨h2,e2⟩:=List.getElem?_eq_some_iff.mp b
 exact (List.getElem_inj hN).mp (e1.trans e2.symm)
theorem store_ok2 {M:Model} {A:Around} {E:Value->Shared->Prop} {i:Nat} {x:Str} {v:V} {u:Value} {Q:Unit->Shared->Prop} (I:Inv X pins σ H s) (hN:X.N.Nodup) (hi:X.N[i]?=some x) (hx:Loc X.env.scope x) (r:RelV v u)
  (h:∀s',Inv X pins (σ.set i (some v)) H s'->(∃a,Heap.SameBut a s.heap s'.heap∧(a=X.env.locals∨X.env.cells.lookup x=some a))->Q () s') (hf:X.fn x=true∨X.env.scope.names.lookup x=some .local:=by first | exact .inl rfl | exact .inr rfl | assumption):wpAny M A (storeName X.env x u) Q E s:=by
 obtain⟨m,hn,hl⟩:=id I.loc
 have hcls:(X.env.scope.kind == .class || (X.env.scope.kind == .module && X.env.locals != X.env.globals))=false:=by rw [I.ok.kind];rfl
 have hiσ:i < σ.length:=by rw [I.len];exact (List.getElem?_eq_some_iff.mp hi).1
 have cne:=I.cne
 have tracked:∀{a:Addr} {h':Heap},(∃o,s.heap.get? a=some o∧H a=none)->Heap.SameBut a s.heap h'->HOk X.prog X.w H h':=fun {a h'} ha hs b ob e=>by
  obtain⟨_,_,hfree⟩:=ha
  refine (I.hok b ob e).stay (fun c w' hc q=>(hs.2 c ?_).trans q) (fun _ q=>q) fun _ _ q=>q
  rintro rfl
  rcases hc with rfl | hc
  ·rw [hfree] at e;cases e
  ·rw [hfree] at hc;cases hc
 rcases hx with hk | hk
 ·refine wpAny_storeName_local hk hn (fun h' hn' hs=>?_) hcls
  obtain⟨oL,_,_,hoL,_⟩:=id hn
  refine h _ ⟨I.ok,I.os,I.bare,⟨fun b o e n hb hx=>?_,fun b o e n hb hx=>?_,I.base.free,fun b o e hx=>?_,I.base.tups,I.base.frzs,I.base.tbls⟩,⟨_,hn',fun j y v' e1 e2 e3=>?_⟩,fun y c e=>?_,I.free,I.freeC,fun p hp=>?_,tracked ⟨oL,hoL,I.free⟩ hs,by simpa using I.len⟩ ⟨_,hs,.inl rfl⟩
  ·exact (hs.2 b (Nat.ne_of_lt (Nat.lt_of_lt_of_le (Heap.lt_size e) I.ok.above))).trans (I.base.keep b o e n hb hx)
  ·obtain⟨sl,e1⟩:=I.base.slot b o e n hb hx
   exact⟨sl,(hs.2 b (Nat.ne_of_lt (Nat.lt_of_lt_of_le (Heap.lt_size e) I.ok.above))).trans e1⟩
  ·obtain⟨o',e1⟩:=I.base.there b o e hx
   exact⟨o',(hs.2 b (Nat.ne_of_lt (Nat.lt_of_lt_of_le (Heap.lt_size e) I.ok.above))).trans e1⟩
  ·by_cases hj:j=i
   ·subst hj
    rw [hi] at e1;cases e1
    rw [List.getElem?_set_self hiσ] at e2
    cases e2
    exact⟨u,r,.inl ⟨hk,by simp⟩⟩
   ·rw [List.getElem?_set_ne (Ne.symm hj)] at e2
    obtain⟨u',r',q⟩:=hl j y v' e1 e2 e3
    refine⟨u',r',?_⟩
    rcases q with ⟨k,e⟩ | ⟨k,c,e,z⟩
    ·refine .inl ⟨k,?_⟩
     have:y≠x:=fun e=>hj (nodup_ix hN e1 (e ▸ hi))
     simp [this,e]
    ·exact .inr ⟨k,c,e,z.sameBut hs (cne y c e)⟩
  ·obtain⟨w',z⟩:=I.cell y c e
   exact⟨w',z.sameBut hs (cne y c e)⟩
  ·obtain⟨e,n,ne,nf,d⟩:=I.pin p hp
   exact⟨(hs.2 p.1 ne).trans e,n,ne,nf,d⟩
 ·have hfn:X.fn x=true:=by
   rcases hf with z | z
   ·exact z
   ·rw [z] at hk;cases hk
  obtain⟨c,hc⟩:=I.ok.has x (.inl hk)
  obtain⟨w',z⟩:=I.cell x c hc
  refine wpAny_storeName_cell I.ok.kind hk hc z (fun h' hc' hs=>?_)
  obtain⟨oc,hoc,hocd⟩:=id z
  refine h { s with heap:=h' } ⟨I.ok,I.os,I.bare,⟨fun b o e n hb hx=>?_,fun b o e n hb hx=>?_,I.base.free,fun b o e hx=>?_,I.base.tups,I.base.frzs,I.base.tbls⟩,⟨m,hn.sameBut hs (Ne.symm (cne x c hc)),fun j y v' e1 e2 e3=>?_⟩,fun y c' e=>?_,I.free,I.freeC,fun p hp=>?_,tracked ⟨oc,hoc,I.freeC x c hc⟩ hs,by simpa using I.len⟩ ⟨c,hs,.inr hc⟩
  ·exact (hs.2 b (Nat.ne_of_lt (Nat.lt_of_lt_of_le (Heap.lt_size e) (I.ok.cab x c hfn hc)))).trans (I.base.keep b o e n hb hx)
  ·obtain⟨sl,e1⟩:=I.base.slot b o e n hb hx
   exact⟨sl,(hs.2 b (Nat.ne_of_lt (Nat.lt_of_lt_of_le (Heap.lt_size e) (I.ok.cab x c hfn hc)))).trans e1⟩
  ·obtain⟨o',e1⟩:=I.base.there b o e hx
   exact⟨o',(hs.2 b (Nat.ne_of_lt (Nat.lt_of_lt_of_le (Heap.lt_size e) (I.ok.cab x c hfn hc)))).trans e1⟩
  ·by_cases hj:j=i
   ·subst hj
    rw [hi] at e1;cases e1
    rw [List.getElem?_set_self hiσ] at e2
    cases e2
    exact⟨u,r,.inr ⟨.inl hk,c,hc,hc'⟩⟩
   ·rw [List.getElem?_set_ne (Ne.symm hj)] at e2
    obtain⟨u',r',q⟩:=hl j y v' e1 e2 e3
    refine⟨u',r',?_⟩
    rcases q with q | ⟨k,c',e,z'⟩
    ·exact .inl q
    ·refine .inr ⟨k,c',e,z'.sameBut hs ?_⟩
     rintro rfl
     exact hj (nodup_ix hN e1 (I.ok.inj _ _ _ e hc ▸ hi))
  ·by_cases hcc:c'=c
   ·subst hcc;exact⟨_,hc'⟩
   ·obtain⟨w2,z2⟩:=I.cell y c' e
    exact⟨w2,z2.sameBut hs hcc⟩
  ·obtain⟨e,n,ne,nf,d⟩:=I.pin p hp
   refine⟨(hs.2 p.1 ?_).trans e,n,ne,nf,d⟩
   intro q
   rw [q,hoc] at e
   have q':oc=p.2:=Option.some.inj e
   exact d w' (by rw [← q'];exact hocd)
theorem store_ok {M:Model} {A:Around} {E:Value->Shared->Prop} {i:Nat} {x:Str} {v:V} {u:Value} {Q:Unit->Shared->Prop} (I:Inv X pins σ H s) (hN:X.N.Nodup) (hi:X.N[i]?=some x) (hx:Loc X.env.scope x) (r:RelV v u)
  (h:∀s',Inv X pins (σ.set i (some v)) H s'->Q () s') (hf:X.fn x=true∨X.env.scope.names.lookup x=some .local:=by first | exact .inl rfl | exact .inr rfl | assumption):wpAny M A (storeName X.env x u) Q E s:=
 store_ok2 I hN hi hx r (fun s' I' _=>h s' I') hf
theorem Inv.call' {s':Shared} {ch:List Addr} (I:Inv X pins σ H s) (ho:s'.os=s.os) (u:Un (frs X.stack) ch H H' s.heap s'.heap) (hok:HOk X.prog X.w H' s'.heap) (hg:AllBare s'.gens)
  (hch:∀b∈ch,(b∈X.ex∨X.s₀.heap.objs.size<=b)∧b≠X.env.locals∧(∀x c,X.env.cells.lookup x=some c->c≠b)∧∀p∈X.pn++pins,p.1≠b):Inv X pins σ H' s':=by
 obtain⟨h',g',d',t',o'⟩:=s'
 have e:o'=s.os:=ho
 subst e
 exact I.call (g':=g') (t':=t') (d':=d') u hok hg hch
end
abbrev XK:=Value->Option Addr->Hp->Prop
abbrev St:=List (Option V)
abbrev VK:=V->Hp->Prop
abbrev TE:=St->Hp->VK->Prop
abbrev TT:=St->Hp->(Bool->Hp->Prop)->Prop
abbrev TA:=St->Hp->(List V->Hp->Prop)->Prop
structure Ends where
 nx:St->Hp->Prop
 rt:VK
 bk:St->Hp->Prop:=fun _ _=>False
 ct:St->Hp->Prop:=fun _ _=>False
abbrev TS:=Ends->St->Hp->Prop
def EP (X:Cx) (pins:List (Addr×Obj)) (σ:St) (Q:VK) (u:Value) (s':Shared):Prop:=∃v H',Inv X pins σ H' s'∧RelV v u∧Q v H'
def TP (X:Cx) (pins:List (Addr×Obj)) (σ:St) (Q:Bool->Hp->Prop) (b:Bool) (s':Shared):Prop:=∃H',Inv X pins σ H' s'∧Q b H'
def AP (X:Cx) (pins:List (Addr×Obj)) (σ:St) (Q:List V->Hp->Prop) (us:List Value) (s':Shared):Prop:=∃vs H',Inv X pins σ H' s'∧Vals vs us∧Q vs H'
def SP (X:Cx) (pins:List (Addr×Obj)) (D:Ends) (f:Flow) (s':Shared):Prop:=
 match f with
 | .next=>∃σ' H',Inv X pins σ' H' s'∧D.nx σ' H'
 | .brk=>∃σ' H',Inv X pins σ' H' s'∧D.bk σ' H'
 | .cont=>∃σ' H',Inv X pins σ' H' s'∧D.ct σ' H'
 | .ret u=>∃v σ' H',Inv X pins σ' H' s'∧RelV v u∧D.rt v H'
def PE (X:Cx) (e:Expr) (t:TE):Prop:=
 ∀(pins:List (Addr×Obj)) (s:Shared) (σ:St) (H:Hp) (Q:VK),Inv X pins σ H s->t σ H Q->wpAny (model X.prog X.w) X.A (eval e X.env) (EP X pins σ Q) X.xe s
def PT (X:Cx) (e:Expr) (t:TT):Prop:=
 ∀(pins:List (Addr×Obj)) (s:Shared) (σ:St) (H:Hp) (Q:Bool->Hp->Prop),Inv X pins σ H s->t σ H Q->wpAny (model X.prog X.w) X.A (isTrue e X.env (eval e X.env)) (TP X pins σ Q) X.xe s
def PW (X:Cx) (e:Expr) (t:TT):Prop:=
 ∀(whole:Sem Value) (pins:List (Addr×Obj)) (s:Shared) (σ:St) (H:Hp) (Q:Bool->Hp->Prop),Inv X pins σ H s->t σ H Q->wpAny (model X.prog X.w) X.A (isTrue e X.env whole) (TP X pins σ Q) X.xe s
theorem PW.pt {X:Cx} {e:Expr} {t:TT} (h:PW X e t):PT X e t:=h _
def PA (X:Cx) (es:List Expr) (t:TA):Prop:=
 ∀(pos:Pos) (pins:List (Addr×Obj)) (s:Shared) (σ:St) (H:Hp) (Q:List V->Hp->Prop),Inv X pins σ H s->t σ H Q->wpAny (model X.prog X.w) X.A (spliced (backTo pos (starEach es X.env))) (AP X pins σ Q) X.xe s
def PS (X:Cx) (st:Stmt) (t:TS):Prop:=
 ∀(pins:List (Addr×Obj)) (s:Shared) (σ:St) (H:Hp) (D:Ends),Inv X pins σ H s->t D σ H->wpAny (model X.prog X.w) X.A (exec st X.env) (SP X pins D) X.xe s
def PSs (X:Cx) (st:List Stmt) (t:TS):Prop:=
 ∀(pins:List (Addr×Obj)) (s:Shared) (σ:St) (H:Hp) (D:Ends),Inv X pins σ H s->t D σ H->wpAny (model X.prog X.w) X.A (execs st X.env) (SP X pins D) X.xe s
theorem thn {α:Type} {t:Sem α} {Q Q':α->Shared->Prop} {M:Model} {A:Around} {E:Value->Shared->Prop} {s:Shared} (h:wpAny M A t Q E s) (hQ:∀a s,Q a s->Q' a s):wpAny M A t Q' E s:=wpAny_mono h hQ fun _ _ x=>x
section
variable {X:Cx}
theorem bin {a b:Expr} {ta tb:TE} (ha:PE X a ta) (hb:PE X b tb) {pins:List (Addr×Obj)} {s:Shared} {σ:St} {H:Hp} {R:V->V->Hp->Prop} (I:Inv X pins σ H s) (h:ta σ H fun x H1=>tb σ H1 fun y H2=>R x y H2)
  {α:Type} {Q:α->Shared->Prop} {f:Value->Value->Sem α}
  (hf:∀v u s2 x y H2,Inv X pins σ H2 s2->RelV x v->RelV y u->R x y H2->wpAny (model X.prog X.w) X.A (f v u) Q X.xe s2):
  wpAny (model X.prog X.w) X.A (eval a X.env) (fun v s₁=>wpAny (model X.prog X.w) X.A (eval b X.env) (fun u s₂=>wpAny (model X.prog X.w) X.A (f v u) Q X.xe s₂) X.xe s₁) X.xe s:=by
 refine thn (ha pins s σ H _ I h) fun v s1 ⟨x,H1,I1,r1,q1⟩=>?_
 refine thn (hb pins s1 σ H1 _ I1 q1) fun u s2 ⟨y,H2,I2,r2,q2⟩=>?_
 exact hf v u s2 x y H2 I2 r1 r2 q2
def tVar (i:Nat):TE:=fun σ H Q=>∃v,σ[i]?=some (some v)∧Q v H
def tC (v:V):TE:=fun _ H Q=>Q v H
theorem pe_var {i:Nat} {x:Str} {pos:Pos} (hN:X.N[i]?=some x) (hv:Vis X.env.scope x) (hd:(x == ("__debug__" : Str))=false:=by decide) (hcd:(x == ("__classdict__" : Str))=false:=by decide):PE X (.Name x pos) (tVar i):=by
 intro pins s σ H Q I h
 obtain⟨v,e,h⟩:=h
 obtain⟨m,hn,hl⟩:=I.loc
 obtain⟨u,r,l⟩:=hl i x v hN e hv
 have fin:EP X pins σ Q u s:=⟨v,H,I,r,h⟩
 rcases l with ⟨hk,hm⟩ | ⟨hk,c,hc,hcell⟩
 ·exact wpAny_Name (wpAny_loadName_local I.ok.kind hk hn hm fin) hd
 ·rcases hk with hk | hk
  ·exact wpAny_Name (wpAny_loadName_cell I.ok.kind hk hc hcell fin) hd
  ·exact wpAny_Name (wpAny_loadName_free I.ok.kind hk hc hcell fin hcd) hd
theorem pe_int {i j pos}:PE X (.Constant (.int i) j pos) (tC (.int i)):=fun _ _ _ H _ I h=>wpAny_Constant_int ⟨.int i,H,I.tok _,⟨_,rfl⟩,h⟩
theorem pe_bl {b j pos}:PE X (.Constant (.bool b) j pos) (tC (.bl b)):=fun _ _ _ H _ I h=>Constant_bool ⟨.bl b,H,I,rfl,h⟩
theorem pe_non {j pos}:PE X (.Constant .none j pos) (tC .non):=fun _ _ _ H _ I h=>Constant_none ⟨.non,H,I,rfl,h⟩
theorem pe_str {x j pos}:PE X (.Constant (.str x) j pos) (tC (.str x)):=fun _ _ _ H _ I h=>Calls.Constant_str ⟨.str x,H,I.tok _,⟨_,rfl⟩,h⟩
def Gl (X:Cx) (x:Str):Prop:=X.env.kindOf x=some .globalImplicit
theorem ld_glob {E:Value->Shared->Prop} {pins:List (Addr×Obj)} {s:Shared} {σ:St} {H:Hp} {x:Str} {u:Value} {pos:Pos} {Q:Value->Shared->Prop} (I:Inv X pins σ H s) (hg:Gl X x) (hm:X.mg x=some u) (h:Q u s)
  (hd:(x == ("__debug__" : Str))=false:=by decide):wpAny (model X.prog X.w) X.A (eval (.Name x pos) X.env) Q E s:=
 Calls.Name_function_global I.ok.kind hg (Calls.loadGlobal_global (by rw [I.ok.glob];exact I.mod.glob.keeps I.bk) hm h) hd
theorem ld_blt {E:Value->Shared->Prop} {pins:List (Addr×Obj)} {s:Shared} {σ:St} {H:Hp} {x:Str} {u:Value} {pos:Pos} {Q:Value->Shared->Prop} (I:Inv X pins σ H s) (hg:Gl X x) (hm:X.mg x=none) (hv:bootBuiltins x=some u) (h:Q u s)
  (hn:x ≠ "__name__" := by decide) (hd:(x == ("__debug__" : Str))=false:=by decide):wpAny (model X.prog X.w) X.A (eval (.Name x pos) X.env) Q E s:=by
 obtain⟨mb,h1,h2⟩:=I.mod.blt
 exact Calls.Name_function_global I.ok.kind hg (Calls.loadGlobal_builtin (by rw [I.ok.glob];exact I.mod.glob.keeps I.bk) hm (by rw [I.ok.blt];exact h1.keeps I.bk) ((h2 x hn).trans hv) h) hd
theorem pe_glob {x:Str} {v:V} {u:Value} {pos:Pos} (hg:Gl X x) (hm:X.mg x=some u) (r:RelV v u) (hd:(x == ("__debug__" : Str))=false:=by decide):PE X (.Name x pos) (tC v):=
 fun _ _ _ H _ I h=>ld_glob I hg hm ⟨v,H,I,r,h⟩ hd
theorem pe_bltn {x:Str} {v:V} {u:Value} {pos:Pos} (hg:Gl X x) (hm:X.mg x=none) (hv:bootBuiltins x=some u) (r:RelV v u) (hn:x ≠ "__name__" := by decide) (hd:(x == ("__debug__" : Str))=false:=by decide):PE X (.Name x pos) (tC v):=
 fun _ _ _ H _ I h=>ld_blt I hg hm hv ⟨v,H,I,r,h⟩ hn hd
variable {a b:Expr} {ta tb:TE} {pos:Pos}
def PC (X:Cx) (op:CmpOp) (a b:Expr) (t:TE):Prop:=
 ∀(pins:List (Addr×Obj)) (s:Shared) (σ:St) (H:Hp) (Q:VK),Inv X pins σ H s->t σ H Q->
  wpAny (model X.prog X.w) X.A (eval a X.env) (fun v s₁=>wpAny (model X.prog X.w) X.A (eval b X.env) (fun u s₂=>wpAny (model X.prog X.w) X.A (compareOp op v u) (EP X pins σ Q) X.xe s₂) X.xe s₁) X.xe s
theorem nobehind (b:Expr) {op:CmpOp} (h:op≠.In) (h2:op≠.NotIn):behindInMarks op b=false:=by
 have e1:(op == CmpOp.In)=false:=by cases op <;> first | rfl | exact absurd rfl h
 have e2:(op == CmpOp.NotIn)=false:=by cases op <;> first | rfl | exact absurd rfl h2
 cases b <;> simp [behindInMarks,e1,e2]
def tB (t:TE):TT:=fun σ H Q=>t σ H fun x H1=>∃c,x=.bl c∧Q c H1
theorem pt_cmp {op:CmpOp} {t:TE} (h:PC X op a b t) (h1:behindInMarks op b=false:=by first | exact nobehind _ (by decide) (by decide) | rfl):PT X (.Compare a [op] [b] pos) (tB t):=by
 intro pins s σ H Q I hw
 refine wpAny_isTrue_Compare1 (thn (h pins s σ H _ I hw) fun v s1 h1=>thn h1 fun u s2 h2=>thn h2 fun c s3 ⟨x,H1,I1,r1,q1⟩=>?_) h1
 obtain⟨d,rfl,q⟩:=q1
 cases r1
 exact wpAny_truthy_bool ⟨H1,I1,q⟩
theorem pt_val {e:Expr} {t:TE} (h:PE X e t) (he:∀whole,isTrue e X.env whole=(do let v ← whole;standAt e.pos;holding [v] (truthy v)):=by intro _;rfl):PT X e (tB t):=by
 intro pins s σ H Q I hw
 refine isTrue_plain (thn (h pins s σ H _ I hw) fun v s1 ⟨x,H1,I1,r1,q1⟩=>?_) (he _)
 obtain⟨d,rfl,q⟩:=q1
 cases r1
 exact wpAny_truthy_bool ⟨H1,I1,q⟩
variable {tA tB':TT} {rest:List Expr}
def tAnd (t u:TT):TT:=fun σ H Q=>t σ H fun c H1=>if c=true then u σ H1 Q else Q false H1
def tOr (t u:TT):TT:=fun σ H Q=>t σ H fun c H1=>if c=true then Q true H1 else u σ H1 Q
def tNot (t:TT):TT:=fun σ H Q=>t σ H fun c H1=>Q (!c) H1
theorem pw_and1 (ha:PT X a tA):PW X (.BoolOp .And [a] pos) tA:=by
 intro wh pins s σ H Q I h
 refine isTrue_and (thn (ha pins s σ H Q I h) fun c s1 e=>?_)
 cases c with
 | true=>exact isTrue_and_nil e
 | false=>exact e
theorem pw_or1 (ha:PT X a tA):PW X (.BoolOp .Or [a] pos) tA:=by
 intro wh pins s σ H Q I h
 refine isTrue_or (thn (ha pins s σ H Q I h) fun c s1 e=>?_)
 cases c with
 | false=>exact isTrue_or_nil e
 | true=>exact e
theorem pw_and (ha:PT X a tA) (hb:PW X (.BoolOp .And (b :: rest) pos) tB'):PW X (.BoolOp .And (a :: b :: rest) pos) (tAnd tA tB'):=by
 intro wh pins s σ H Q I h
 refine isTrue_and (thn (ha pins s σ H _ I h) fun c s1 ⟨H1,I1,q1⟩=>?_)
 cases c with
 | true=>exact hb wh pins s1 σ H1 Q I1 q1
 | false=>exact⟨H1,I1,q1⟩
theorem pw_or (ha:PT X a tA) (hb:PW X (.BoolOp .Or (b :: rest) pos) tB'):PW X (.BoolOp .Or (a :: b :: rest) pos) (tOr tA tB'):=by
 intro wh pins s σ H Q I h
 refine isTrue_or (thn (ha pins s σ H _ I h) fun c s1 ⟨H1,I1,q1⟩=>?_)
 cases c with
 | true=>exact⟨H1,I1,q1⟩
 | false=>exact hb wh pins s1 σ H1 Q I1 q1
theorem pt_not (ha:PT X a tA):PT X (.UnaryOp .Not a pos) (tNot tA):=by
 intro pins s σ H Q I h
 exact isTrue_not (ha pins s σ H (fun c H1=>Q (!c) H1) I h)
def tAndV (ta tb:TE):TE:=fun σ H Q=>ta σ H fun x H1=>∃c,x=.bl c∧if c=true then tb σ H1 Q else Q (.bl false) H1
def tOrV (ta tb:TE):TE:=fun σ H Q=>ta σ H fun x H1=>∃c,x=.bl c∧if c=true then Q (.bl true) H1 else tb σ H1 Q
def tNotV (ta:TE):TE:=fun σ H Q=>ta σ H fun x H1=>∃c,x=.bl c∧Q (.bl (!c)) H1
theorem pe_one {op} {t:TE} (h:PE X a t):PE X (.BoolOp op [a] pos) t:=fun pins s σ H Q I hw=>BoolOp_one (h pins s σ H Q I hw)
theorem pe_and (ha:PE X a ta) (hb:PE X (.BoolOp .And (b :: rest) pos) tb):PE X (.BoolOp .And (a :: b :: rest) pos) (tAndV ta tb):=by
 intro pins s σ H Q I h
 refine BoolOp_and (thn (ha pins s σ H _ I h) fun v s1 ⟨x,H1,I1,r1,q1⟩=>?_)
 obtain⟨c,rfl,q1⟩:=q1
 cases r1
 refine wpAny_truthy_bool ?_
 cases c with
 | true=>exact hb pins s1 σ H1 Q I1 q1
 | false=>exact⟨.bl false,H1,I1,rfl,q1⟩
theorem pe_or (ha:PE X a ta) (hb:PE X (.BoolOp .Or (b :: rest) pos) tb):PE X (.BoolOp .Or (a :: b :: rest) pos) (tOrV ta tb):=by
 intro pins s σ H Q I h
 refine BoolOp_or (thn (ha pins s σ H _ I h) fun v s1 ⟨x,H1,I1,r1,q1⟩=>?_)
 obtain⟨c,rfl,q1⟩:=q1
 cases r1
 refine wpAny_truthy_bool ?_
 cases c with
 | false=>exact hb pins s1 σ H1 Q I1 q1
 | true=>exact⟨.bl true,H1,I1,rfl,q1⟩
def tIf (t:TT) (ta tb:TE):TE:=fun σ H Q=>t σ H fun c H1=>if c=true then ta σ H1 Q else tb σ H1 Q
end
def SqL (K:W.Frag) (H:Hp) (a:Addr) (xs:List V):Prop:=
 Rd H a (.lst xs)∨
  ∃(o:Obj) (its:Array Value) (n:Nat),K.lookup a=some o∧o.cls=.type "list" ∧ o.dict=none∧o.data=.seq its n∧its.size<=sizeLine∧Vals xs its.toList
def SqT (K:W.Frag) (H:Hp) (a:Addr) (xs:List V):Prop:=
 Rd H a (.tup xs)∨
  ∃(o:Obj) (its:Array Value) (n:Nat),K.lookup a=some o∧o.cls=.type "tuple" ∧ o.data=.seq its n∧its.size<=sizeLine∧Vals xs its.toList
def absV:Value->Option V
 | .none=>some .non
 | .bool b=>some (.bl b)
 | .int i _=>some (.int i)
 | .str x _=>some (.str x)
 | .bytes b _=>some (.byt b)
 | .float b _=>some (.flt b)
 | .ref a=>some (.ref a)
 | .type n=>some (.ty n)
 | _=>none
theorem RelV.abs {x:V} {u:Value} (r:RelV x u):absV u=some x:=by
 cases x with
 | non=>cases r;rfl
 | bl _=>cases r;rfl
 | int _=>obtain⟨t,rfl⟩:=r;rfl
 | str _=>obtain⟨t,rfl⟩:=r;rfl
 | byt _=>obtain⟨t,rfl⟩:=r;rfl
 | flt _=>obtain⟨t,rfl⟩:=r;rfl
 | ref _=>cases r;rfl
 | ty _=>cases r;rfl
theorem RelV.inj {x y:V} {u:Value} (r:RelV x u) (q:RelV y u):x=y:=Option.some.inj (r.abs.symm.trans q.abs)
theorem Vals.inj:∀{xs ys:List V} {us:List Value},Vals xs us->Vals ys us->xs=ys
 | _,_,_,.nil,.nil=>rfl
 | _,_,_,.cons r t,.cons r' t'=>by rw [r.inj r',Vals.inj t t']
section
variable {X:Cx} {pins:List (Addr×Obj)} {σ:St} {H:Hp} {s:Shared} {a:Addr} {xs ys:List V}
theorem SqL.of {K:W.Frag} (h:H a=some (.lst xs)):SqL K H a xs:=.inl (.inl h)
theorem SqT.of {K:W.Frag} (h:H a=some (.tup xs)):SqT K H a xs:=.inl (.inl h)
theorem Inv.list (I:Inv X pins σ H s) (h:SqL X.K H a xs):∃its:List Value,Vals xs its∧PlainL s.heap a its.toArray∧xs.length<=sizeLine:=by
 rcases h with h | ⟨o,its,n,hk,hc,hd,hs,hz,r⟩
 ·obtain⟨z,its,n,r,e⟩:=h.ok I.hok
  exact⟨its,r,⟨_,n,e,rfl,rfl,rfl⟩,z⟩
 ·refine⟨its.toList,r,⟨o,n,I.kIn a o hk,hc,hd,by simpa using hs⟩,?_⟩
  have e:=r.length
  simp only [Array.length_toList] at e
  omega
theorem Inv.tuple (I:Inv X pins σ H s) (h:SqT X.K H a xs):∃its:List Value,Vals xs its∧IsTup s.heap a its.toArray∧xs.length<=sizeLine:=by
 rcases h with h | ⟨o,its,n,hk,hc,hs,hz,r⟩
 ·obtain⟨z,its,r,p⟩:=h.ok I.hok
  exact⟨its,r,p,z⟩
 ·refine⟨its.toList,r,⟨o,I.kIn a o hk,hc,n,by simpa using hs⟩,?_⟩
  have e:=r.length
  simp only [Array.length_toList] at e
  omega
theorem Inv.list_inj (I:Inv X pins σ H s) (h:SqL X.K H a xs) (h':SqL X.K H a ys):xs=ys:=by
 obtain⟨its,r,⟨o,n,e,_,_,d⟩,_⟩:=I.list h
 obtain⟨its',r',⟨o',n',e',_,_,d'⟩,_⟩:=I.list h'
 rw [e] at e';cases e'
 rw [d] at d'
 injection d' with d1 _
 have:its=its':=by simpa using congrArg Array.toList d1
 subst this
 exact r.inj r'
end
abbrev Cx.wish (X:Cx) (E:Value->Shared->Prop):Cx:={ X with xe:=E }
abbrev Cx.nox (X:Cx):Cx:=X.wish fun _ _=>False
theorem Cx.Ok.wish {X:Cx} (ok:X.Ok) (E:Value->Shared->Prop):(X.wish E).Ok:=
 ⟨ok.mod,ok.kind,ok.glob,ok.blt,ok.above,ok.inj,ok.has,ok.cab,ok.hd,ok.frames,ok.stk,ok.exf,ok.bs,ok.bsz,ok.noex,ok.exfs,ok.funs,ok.frf⟩
theorem Cx.Ok.unwish {X:Cx} {E:Value->Shared->Prop} (ok:(X.wish E).Ok):X.Ok:=
 ⟨ok.mod,ok.kind,ok.glob,ok.blt,ok.above,ok.inj,ok.has,ok.cab,ok.hd,ok.frames,ok.stk,ok.exf,ok.bs,ok.bsz,ok.noex,ok.exfs,ok.funs,ok.frf⟩
section
variable {X:Cx} {pins:List (Addr×Obj)} {σ:St} {H:Hp} {s:Shared} {E:Value->Shared->Prop}
theorem Inv.wish (I:Inv X pins σ H s) (E:Value->Shared->Prop):Inv (X.wish E) pins σ H s:=⟨I.ok.wish E,I.os,I.bare,I.base,I.loc,I.cell,I.free,I.freeC,I.pin,I.hok,I.len⟩
theorem Inv.unwish (I:Inv (X.wish E) pins σ H s):Inv X pins σ H s:=⟨I.ok.unwish,I.os,I.bare,I.base,I.loc,I.cell,I.free,I.freeC,I.pin,I.hok,I.len⟩
theorem SP.unwish {D:Ends} {f:Flow} {s':Shared} (h:SP (X.wish E) pins D f s'):SP X pins D f s':=by
 cases f with
 | next=>obtain⟨σ',H',I,q⟩:=h;exact⟨σ',H',I.unwish,q⟩
 | brk=>obtain⟨σ',H',I,q⟩:=h;exact⟨σ',H',I.unwish,q⟩
 | cont=>obtain⟨σ',H',I,q⟩:=h;exact⟨σ',H',I.unwish,q⟩
 | ret u=>obtain⟨v,σ',H',I,r,q⟩:=h;exact⟨v,σ',H',I.unwish,r,q⟩
theorem PT.nox {e:Expr} {t:TT} (h:PT X.nox e t):PT X e t:=fun pins s σ H Q I hw=>
 wpAny_mono (h pins s σ H Q (I.wish _) hw) (fun _ _ ⟨H',I',q⟩=>⟨H',I'.unwish,q⟩) fun _ _ z=>False.elim z
theorem PSs.nox {st:List Stmt} {t:TS} (h:PSs X.nox st t):PSs X st t:=fun pins s σ H D I hw=>
 wpAny_mono (h pins s σ H D (I.wish _) hw) (fun _ _ q=>q.unwish) fun _ _ z=>False.elim z
end
section
variable {X:Cx} {st:Stmt} {rest:List Stmt} {t u:TS} {e:Expr} {te:TE} {pos:Pos}
def tNext:TS:=fun D σ H=>D.nx σ H
def tSeq (t u:TS):TS:=fun D σ H=>t { D with nx:=u D } σ H
theorem pss_nil:PSs X [] tNext:=fun _ _ σ H _ I h=>wpAny_execs_nil ⟨σ,H,I,h⟩
theorem pss_cons (h1:PS X st t) (h2:PSs X rest u):PSs X (st :: rest) (tSeq t u):=by
 intro pins s σ H D I h
 refine wpAny_execs_cons (thn (h1 pins s σ H { D with nx:=u D } I h) fun f s1 q=>?_)
 cases f with
 | next=>
  obtain⟨σ',H',I',q⟩:=q
  exact h2 pins s1 σ' H' D I' q
 | ret v=>exact q
 | brk=>exact q
 | cont=>exact q
theorem pss_one (h1:PS X st t):PSs X [st] t:=by
 intro pins s σ H D I h
 refine wpAny_execs_cons (thn (h1 pins s σ H D I h) fun f s1 q=>?_)
 cases f with
 | next=>exact wpAny_execs_nil q
 | ret v=>exact q
 | brk=>exact q
 | cont=>exact q
def tBreak:TS:=fun D σ H=>D.bk σ H
def tCont:TS:=fun D σ H=>D.ct σ H
theorem Inv.quiet {pins:List (Addr×Obj)} {σ:St} {H:Hp} {s:Shared} (I:Inv X pins σ H s):interactive X.env=false:=by simp [interactive,I.ok.kind]
def tDrop (te:TE):TS:=fun D σ H=>te σ H fun _ H1=>D.nx σ H1
theorem ps_expr (he:PE X e te) (hs:swapsWith e none pos.line X.env=pure false:=by rfl):PS X (.Expr e pos) (tDrop te):=by
 intro pins s σ H D I h
 exact wpAny_Expr_any (thn (he pins s σ H _ I h) fun v s1 ⟨x,H1,I1,r1,q1⟩=>⟨σ,H1,I1,q1⟩) I.quiet hs
def tRet (te:TE):TS:=fun D σ H=>te σ H D.rt
theorem ps_ret (he:PE X e te):PS X (.Return (some e) pos) (tRet te):=by
 intro pins s σ H D I h
 exact wpAny_Return_some (thn (he pins s σ H _ I h) fun v s1 ⟨x,H1,I1,r1,q1⟩=>⟨x,σ,H1,I1,r1,q1⟩)
def tRetN:TS:=fun D _ H=>D.rt .non H
def tIfS (c:TT) (t u:TS):TS:=fun D σ H=>c σ H fun b H1=>if b=true then t D σ H1 else u D σ H1
theorem ps_if {c:Expr} {a b:List Stmt} {tc:TT} (hc:PT X c tc) (ha:PSs X a t) (hb:PSs X b u):PS X (.If c a b pos) (tIfS tc t u):=by
 intro pins s σ H D I h
 refine wpAny_If (thn (hc pins s σ H _ I h) fun d s1 ⟨H1,I1,q1⟩=>?_)
 cases d with
 | true=>exact ha pins s1 σ H1 D I1 q1
 | false=>exact hb pins s1 σ H1 D I1 q1
def tNever:TS:=fun _ _ _=>False
theorem pss_never {sts:List Stmt}:PSs X sts tNever:=fun _ _ _ _ _ _ h=>h.elim
end
abbrev TG:=V->St->Hp->(St->Hp->Prop)->Prop
abbrev TGs:=List V->St->Hp->(St->Hp->Prop)->Prop
def PG (X:Cx) (target:Expr) (t:TG):Prop:=
 ∀(pins:List (Addr×Obj)) (s:Shared) (σ:St) (H:Hp) (v:V) (u:Value) (Q:St->Hp->Prop),Inv X pins σ H s->RelV v u->t v σ H Q->
  wpAny (model X.prog X.w) X.A (assign target X.env u) (fun _ s'=>∃σ' H',Inv X pins σ' H' s'∧Q σ' H') X.xe s
def PGs (X:Cx) (ts:List Expr) (t:TGs):Prop:=
 ∀(pins:List (Addr×Obj)) (s:Shared) (σ:St) (H:Hp) (vs:List V) (us:List Value) (Q:St->Hp->Prop),Inv X pins σ H s->Vals vs us->t vs σ H Q->
  wpAny (model X.prog X.w) X.A (assignInOrder ((assignEach ts X.env).map (·.2)) us) (fun _ s'=>∃σ' H',Inv X pins σ' H' s'∧Q σ' H') X.xe s
abbrev TSet:=V->V->V->Hp->(Hp->Prop)->Prop
def PSet (X:Cx) (t:TSet):Prop:=
 ∀(pins:List (Addr×Obj)) (s:Shared) (σ:St) (H:Hp) (o i v:V) (ov iv u:Value) (Q:Hp->Prop),Inv X pins σ H s->RelV o ov->RelV i iv->RelV v u->t o i v H Q->
  wpAny (model X.prog X.w) X.A (setItem ov iv u) (fun _ s'=>∃H',Inv X pins σ H' s'∧Q H') X.xe s
abbrev TIp:=V->V->Hp->VK->Prop
def PIp (X:Cx) (op:Operator) (t:TIp):Prop:=
 ∀(pins:List (Addr×Obj)) (s:Shared) (σ:St) (H:Hp) (x y:V) (v u:Value) (Q:VK),Inv X pins σ H s->RelV x v->RelV y u->t x y H Q->
  wpAny (model X.prog X.w) X.A (inplaceOp op v u) (EP X pins σ Q) X.xe s
section
variable {X:Cx} {pos:Pos}
def gName (i:Nat):TG:=fun v σ H Q=>Q (σ.set i (some v)) H
theorem pg_name {i:Nat} {x:Str} (hN:X.N.Nodup) (hi:X.N[i]?=some x) (hx:Loc X.env.scope x) (hf:X.fn x=true∨X.env.scope.names.lookup x=some .local:=by first | exact .inl rfl | exact .inr rfl | assumption):PG X (.Name x pos) (gName i):=by
 intro pins s σ H v u Q I r h
 exact wpAny_assign_Name (store_ok I hN hi hx r (fun s' I'=>⟨_,H,I',h⟩) hf)
def gNil:TGs:=fun vs σ H Q=>vs=[]∧Q σ H
def gCons (t:TG) (u:TGs):TGs:=fun vs σ H Q=>∃v r,vs=v :: r∧t v σ H fun σ' H'=>u r σ' H' Q
theorem pgs_nil:PGs X [] gNil:=by
 intro pins s σ H vs us Q I r h
 obtain⟨e,h⟩:=h
 subst e
 cases r
 exact assignInOrder_nil ⟨σ,H,I,h⟩
theorem pgs_cons {e:Expr} {es:List Expr} {t:TG} {u:TGs} (h1:PG X e t) (h2:PGs X es u)
  (hs:(assignEach (e :: es) X.env).map (·.2)=assign e X.env :: (assignEach es X.env).map (·.2):=by rfl):PGs X (e :: es) (gCons t u):=by
 intro pins s σ H vs us Q I r h
 obtain⟨v,vr,e1,h⟩:=h
 subst e1
 cases r with
 | cons r rr=>
  rw [hs]
  refine assignInOrder_cons (thn (h1 pins s σ H _ _ _ I r h) fun _ s1 ⟨σ1,H1,I1,q1⟩=>?_)
  exact h2 pins s1 σ1 H1 _ _ Q I1 rr q1
def gTup (K:W.Frag) (n:Nat) (t:TGs):TG:=fun v σ H Q=>∃a xs,v=.ref a∧SqT K H a xs∧xs.length=n∧t xs σ H Q
theorem pg_tup {es:List Expr} {k:Nat} {t:TGs} {n:Nat} (hc:X.calm=true) (h:PGs X es t)
  (hn:(assignEach es X.env).length=n:=by rfl) (hst:(assignEach es X.env).findIdx? (·.1)=none:=by rfl):PG X (.Tuple es k pos) (gTup X.K n t):=by
 intro pins s σ H v u Q I r hw
 obtain⟨a,xs,e1,hq,hl,hw⟩:=hw
 subst e1
 cases r
 obtain⟨its,rv,ht,hz⟩:=I.tuple hq
 refine assign_Tuple_tuple (I.ok.hd hc) ht (by simp [hn,← hl,rv.length]) hst fun h' hx=>?_
 have I1:Inv X pins σ H { s with heap:=h' }:=I.kept (t':=s.toks) fun b o e=>hx b o (Nat.ne_of_lt (Heap.lt_size e)) e
 exact h pins _ σ H xs _ Q I1 (by simpa using rv) hw
def gSub (to ti:TE) (t:TSet):TG:=fun v σ H Q=>to σ H fun o H1=>ti σ H1 fun i H2=>t o i v H2 fun H3=>Q σ H3
theorem pg_sub {o i:Expr} {to ti:TE} {t:TSet} (ho:PE X o to) (hi:PE X i ti) (hs:PSet X t)
  (ha:∀v,assign (.Subscript o i pos) X.env v=(do
   let ov ← holding [v] (eval o X.env)
   let iv ← holding [v,ov] (eval i X.env)
   standAt pos
   holding [v,ov,iv] (setItem ov iv v)
   release [v,ov,iv] []):=by intro _;rfl):PG X (.Subscript o i pos) (gSub to ti t):=by
 intro pins s σ H v u Q I r h
 rw [ha]
 refine wpAny_bind (wpAny_holding (thn (ho pins s σ H _ I h) fun ov s1 ⟨x,H1,I1,r1,q1⟩=>?_))
 refine wpAny_bind (wpAny_holding (thn (hi pins s1 σ H1 _ I1 q1) fun iv s2 ⟨y,H2,I2,r2,q2⟩=>?_))
 refine wpAny_bind (wpAny_standAt (wpAny_bind (wpAny_holding (thn (hs pins s2 σ H2 x y v ov iv u _ I2 r1 r2 r q2) fun _ s3 ⟨H3,I3,q3⟩=>?_))))
 exact wpAny_release ⟨σ,H3,I3,q3⟩
def tAsg (te:TE) (g:TG):TS:=fun D σ H=>te σ H fun x H1=>g x σ H1 D.nx
theorem ps_asg {tg e:Expr} {te:TE} {g:TG} (he:PE X e te) (hg:PG X tg g) (hs:swapsWithSole [tg] e pos.line X.env=pure false:=by rfl) (hw:swappedStores [tg] e X.env=pure none:=by rfl)
  (h1:(assignEach [tg] X.env).map (·.2)=[assign tg X.env]:=by rfl):PS X (.Assign [tg] e pos) (tAsg te g):=by
 intro pins s σ H D I h
 refine wpAny_Assign_stores (thn (he pins s σ H _ I h) fun v s1 ⟨x,H1,I1,r1,q1⟩=>?_) hs hw
 rw [h1]
 exact thn (hg pins s1 σ H1 x v _ I1 r1 q1) fun _ s2 q=>q
theorem ps_set {i:Nat} {x:Str} {e:Expr} {te:TE} {pos':Pos} (hN:X.N.Nodup) (hi:X.N[i]?=some x) (hx:Loc X.env.scope x) (he:PE X e te) (hs:swapsWith e (some (.Name x pos')) pos.line X.env=pure false:=by rfl) (hf:X.fn x=true∨X.env.scope.names.lookup x=some .local:=by first | exact .inl rfl | exact .inr rfl | assumption):
  PS X (.Assign [.Name x pos'] e pos) (tAsg te (gName i)):=by
 intro pins s σ H D I h
 refine wpAny_Assign_Name (thn (he pins s σ H _ I h) fun v s1 ⟨y,H1,I1,r1,q1⟩=>?_) hs
 exact store_ok I1 hN hi hx r1 (fun s2 I2=>⟨_,H1,I2,q1⟩) hf
def tAug (i:Nat) (te:TE) (ti:TIp):TS:=fun D σ H=>∃x,σ[i]?=some (some x)∧te σ H fun y H1=>ti x y H1 fun z H2=>D.nx (σ.set i (some z)) H2
theorem ps_aug {i:Nat} {x:Str} {e:Expr} {te:TE} {op:Operator} {ti:TIp} {pos':Pos} (hN:X.N.Nodup) (hi:X.N[i]?=some x) (hx:Loc X.env.scope x) (he:PE X e te) (ho:PIp X op ti) (hf:X.fn x=true∨X.env.scope.names.lookup x=some .local:=by first | exact .inl rfl | exact .inr rfl | assumption):
  PS X (.AugAssign (.Name x pos') op e pos) (tAug i te ti):=by
 intro pins s σ H D I h
 obtain⟨v,e1,h⟩:=h
 obtain⟨m,hn,hl⟩:=I.loc
 have vis:Vis X.env.scope x:=by rcases hx with k | k;exact .inl k;exact .inr (.inl k)
 obtain⟨u,r,l⟩:=hl i x v hi e1 vis
 refine wpAny_AugAssign_Name ?_
 have go:wpAny (model X.prog X.w) X.A (eval e X.env) (fun w s₂=>wpAny (model X.prog X.w) X.A (inplaceOp op u w) (fun r s₃=>wpAny (model X.prog X.w) X.A (storeName X.env x r) (fun _=>SP X pins D .next) X.xe s₃) X.xe s₂) X.xe s:=by
  refine thn (he pins s σ H _ I h) fun w s1 ⟨y,H1,I1,r1,q1⟩=>?_
  refine thn (ho pins s1 σ H1 v y u w _ I1 r r1 q1) fun z s2 ⟨zv,H2,I2,r2,q2⟩=>?_
  exact store_ok I2 hN hi hx r2 (fun s3 I3=>⟨_,H2,I3,q2⟩) hf
 rcases l with ⟨hk,hm⟩ | ⟨hk,c,hc,hcell⟩
 ·exact wpAny_loadName_local I.ok.kind hk hn hm go
 ·rcases hk with hk | hk
  ·exact wpAny_loadName_cell I.ok.kind hk hc hcell go
  ·rcases hx with k | k
   ·have:X.env.scope.names.lookup x=some .free:=hk
    rw [k] at this;cases this
   ·have:X.env.scope.names.lookup x=some .free:=hk
    rw [k] at this;cases this
def tAugS (to ti te:TE) (tget:V->V->Hp->VK->Prop) (tip:TIp) (tset:TSet):TS:=fun D σ H=>to σ H fun o H1=>ti σ H1 fun i H2=>tget o i H2 fun x H3=>te σ H3 fun y H4=>tip x y H4 fun z H5=>tset o i z H5 fun H6=>D.nx σ H6
def PGet (X:Cx) (t:V->V->Hp->VK->Prop):Prop:=
 ∀(pins:List (Addr×Obj)) (s:Shared) (σ:St) (H:Hp) (o i:V) (ov iv:Value) (Q:VK),Inv X pins σ H s->RelV o ov->RelV i iv->t o i H Q->
  wpAny (model X.prog X.w) X.A (getItem ov iv) (EP X pins σ Q) X.xe s
theorem ps_augS {o i e:Expr} {to ti te:TE} {tget:V->V->Hp->VK->Prop} {tip:TIp} {tset:TSet} {op:Operator} {tpos:Pos} (ho:PE X o to) (hi:PE X i ti) (hg:PGet X tget) (he:PE X e te) (hp:PIp X op tip) (hs:PSet X tset)
  (ha:∀ov iv new,augStore i ov iv new=(do holding [new,ov,iv] (setItem ov iv new);release [new,ov,iv] [];pure .next):=by intros;rfl):PS X (.AugAssign (.Subscript o i tpos) op e pos) (tAugS to ti te tget tip tset):=by
 intro pins s σ H D I h
 refine wpAny_AugAssign_SubscriptAny (thn (ho pins s σ H _ I h) fun ov s1 ⟨x1,H1,I1,r1,q1⟩=>?_) ha
 refine thn (hi pins s1 σ H1 _ I1 q1) fun iv s2 ⟨x2,H2,I2,r2,q2⟩=>?_
 refine thn (hg pins s2 σ H2 x1 x2 ov iv _ I2 r1 r2 q2) fun old s3 ⟨x3,H3,I3,r3,q3⟩=>?_
 refine thn (he pins s3 σ H3 _ I3 q3) fun v s4 ⟨x4,H4,I4,r4,q4⟩=>?_
 refine thn (hp pins s4 σ H4 x3 x4 old v _ I4 r3 r4 q4) fun new s5 ⟨x5,H5,I5,r5,q5⟩=>?_
 exact thn (hs pins s5 σ H5 x1 x2 x5 ov iv new _ I5 r1 r2 r5 q5) fun _ s6 ⟨H6,I6,q6⟩=>⟨σ,H6,I6,q6⟩
def ipI (f:Int->Int->Int):TIp:=fun x y H Q=>∃i j,x=.int i∧y=.int j∧Q (.int (f i j)) H
theorem ip_add:PIp X .Add (ipI fun i j=>i+j):=by
 intro pins s σ H x y v u Q I r1 r2 h
 obtain⟨i,j,e1,e2,q⟩:=h
 subst e1;subst e2
 obtain⟨t,rfl⟩:=r1
 obtain⟨t',rfl⟩:=r2
 exact iadd_int ⟨.int _,H,I.tok _,⟨_,rfl⟩,q⟩
theorem ip_sub:PIp X .Sub (ipI fun i j=>i - j):=by
 intro pins s σ H x y v u Q I r1 r2 h
 obtain⟨i,j,e1,e2,q⟩:=h
 subst e1;subst e2
 obtain⟨t,rfl⟩:=r1
 obtain⟨t',rfl⟩:=r2
 exact isub_int ⟨.int _,H,I.tok _,⟨_,rfl⟩,q⟩
end
section
variable {X:Cx} {pos:Pos}
def tWhile (c:TT) (tb:TS):TS:=fun D σ H=>∃W:Nat->St->Hp->Prop,(∃m,W m σ H)∧∀m σ H,W m σ H->
 c σ H fun b H1=>if b=true then ∃N:St->Hp->Prop,(∀σ' H',N σ' H'->∃m',m' < m∧W m' σ' H')∧tb { D with nx:=N,ct:=N,bk:=D.nx } σ H1 else D.nx σ H1
theorem ps_while {c:Expr} {body:List Stmt} {tc:TT} {tb:TS} (hp:PassesOwn (model X.prog X.w) X.A X.env X.xe) (hc:PT X c tc) (hb:PSs X body tb):PS X (.While c body [] pos) (tWhile tc tb):=by
 intro pins s σ H D I h
 obtain⟨W,⟨m0,w0⟩,turn⟩:=h
 refine wpAny_While (codeAny_whileLoop (fun n s'=>∃σ' H',Inv X pins σ' H' s'∧W n σ' H') ?_ m0 ⟨σ,H,I,w0⟩)
 rintro n s1 ⟨σ1,H1,I1,w1⟩
 refine wpAny_passesOwn hp (thn (hc pins s1 σ1 H1 _ I1 (turn n σ1 H1 w1)) fun b s2 ⟨H2,I2,q2⟩=>?_)
 cases b with
 | true=>
  obtain⟨N,hN,q2⟩:=q2
  rw [if_pos rfl]
  refine wpAny_passesOwn hp (thn (hb pins s2 σ1 H2 _ I2 q2) fun f s3 q3=>?_)
  cases f with
  | next=>
   obtain⟨σ3,H3,I3,n3⟩:=q3
   obtain⟨m',hm,w3⟩:=hN σ3 H3 n3
   exact⟨m',hm,σ3,H3,I3,w3⟩
  | cont=>
   obtain⟨σ3,H3,I3,n3⟩:=q3
   obtain⟨m',hm,w3⟩:=hN σ3 H3 n3
   exact⟨m',hm,σ3,H3,I3,w3⟩
  | brk=>exact q3
  | ret v=>exact q3
 | false=>
  rw [if_neg Bool.false_ne_true]
  exact wpAny_execs_nil ⟨σ1,H2,I2,q2⟩
end
structure It where
 go:Nat->Hp->Prop
 yld:Nat->Hp->V->Hp->Prop
 stop:Nat->Hp->Prop
def FpOk (X:Cx) (pins:List (Addr×Obj)) (H:Hp) (b:Addr):Prop:=
 H b=none∧b≠X.env.locals∧b∉X.fs∧(b∈X.ex∨X.s₀.heap.objs.size<=b)∧(∀x c,X.env.cells.lookup x=some c->c≠b)∧∀p∈X.pn++pins,p.1≠b
theorem Inv.fpOk {X:Cx} {pins:List (Addr×Obj)} {σ:St} {H H':Hp} {s:Shared} {b:Addr} (I:Inv X pins σ H s) (hb:s.heap.objs.size<=b) (hn:H' b=none):FpOk X pins H' b:=by
 refine⟨hn,Nat.ne_of_gt (Nat.lt_of_lt_of_le I.lt hb),I.nofs hb,.inr (Nat.le_trans I.sz hb),fun x c e z=>?_,fun p hp z=>?_⟩
 ·obtain⟨v,q⟩:=I.cell x c e
  exact absurd (Nat.lt_of_lt_of_le q.lt (by rw [z];exact hb)) (Nat.lt_irrefl _)
 ·exact absurd (Nat.lt_of_lt_of_le (Heap.lt_size (I.pin p hp).1) (by rw [z];exact hb)) (Nat.lt_irrefl _)
structure Turn (P:Program) (w:World) (K:W.Frag) (tg:Expr) (J:It) (fp:List Addr) (it:Addr) (tn:Nat->Heap->Prop):Prop where
 mem:it∈fp
 obj:∀i h,tn i h->∀b∈fp,∃o,h.get? b=some o∧∀v,o.data≠.cell v
 keep:∀i h h',tn i h->(∀b∈fp,∀o,h.get? b=some o->h'.get? b=some o)->tn i h'
 item:∀(X:Cx),X.prog=P->X.w=w->X.K=K->X.calm=true->∀(i:Nat) (pins:List (Addr×Obj)) (s:Shared) (σ:St) (H:Hp) (E:Value->Shared->Prop),Inv X pins σ H s->(∀b∈fp,FpOk X pins H b)->tn i s.heap->J.go i H->
  wpAny (model P w) X.A (pyNext (.ref it)) (fun r s1=>∃u,r=some u∧
   wpAny (model P w) X.A (letOwnedTupleGo tg (.ref it) u) (fun _ s2=>∃x H',Inv X pins σ H' s2∧RelV x u∧J.yld i H x H'∧tn (i+1) s2.heap∧∀b∈fp,H' b=none) E s1) E s
 done:∀(X:Cx),X.prog=P->X.w=w->X.K=K->X.calm=true->∀(i:Nat) (pins:List (Addr×Obj)) (s:Shared) (σ:St) (H:Hp) (E:Value->Shared->Prop),Inv X pins σ H s->(∀b∈fp,FpOk X pins H b)->tn i s.heap->J.stop i H->
  wpAny (model P w) X.A (pyNext (.ref it)) (fun r s1=>r=none∧Inv X pins σ H s1) E s
 self:∀(A:Around) (i:Nat) (s:Shared) (Q:Value->Shared->Prop) (E:Value->Shared->Prop),tn i s.heap->Q (.ref it) s->wpAny (model P w) A (pyIter (.ref it)) Q E s
abbrev TI:=St->Hp->(It->Hp->Prop)->Prop
def PIE (X:Cx) (pins:List (Addr×Obj)) (σ:St) (tg:Expr) (R:It->Hp->Prop) (itv:Value) (s2:Shared):Prop:=
 ∃(it:Addr) (fp:List Addr) (tn:Nat->Heap->Prop) (J:It) (H':Hp),itv=.ref it∧Inv X pins σ H' s2∧Turn X.prog X.w X.K tg J fp it tn∧tn 0 s2.heap∧(∀b∈fp,FpOk X pins H' b)∧R J H'
def PI (X:Cx) (tg iter:Expr) (wi:TI):Prop:=
 ∀(pins:List (Addr×Obj)) (s:Shared) (σ:St) (H:Hp) (R:It->Hp->Prop),Inv X pins σ H s->wi σ H R->
  wpAny (model X.prog X.w) X.A (eval iter X.env) (fun v s1=>wpAny (model X.prog X.w) X.A (pyIter v) (PIE X pins σ tg R) X.xe s1) X.xe s
theorem go_of {M:Model} {A:Around} {E:Value->Shared->Prop} {s:Shared} {tg:Expr} {it:Addr} {u:Value} {o:Obj} {n:String} {vs:Array Value} {Q:Unit->Shared->Prop} (ho:s.heap.get? it=some o) (hc:o.cls=.type n) (hd:o.data=.fields vs)
  (hn:["enumerate","zip","dict_itemiterator","dict_reverseitemiterator","odict_iterator","itertools.zip_longest","itertools.pairwise"].contains n=false) (hQ:Q () s):wpAny M A (letOwnedTupleGo tg (.ref it) u) Q E s:=by
 unfold letOwnedTupleGo
 cases tg <;> first
  | exact wpAny_pure hQ
  |(cases u <;> first
    | exact wpAny_pure hQ
    |(refine wpAny_bind (wpAny_load ho ?_)
      rw [hc,hd]
      show wpAny M A (if (["enumerate","zip","dict_itemiterator","dict_reverseitemiterator","odict_iterator","itertools.zip_longest","itertools.pairwise"].contains n && vs[0]? == some (rawInt _))=true then _ else _) Q E s
      rw [if_neg (by intro h;rw [hn,Bool.false_and] at h;cases h)]
      exact wpAny_pure hQ))
def Itl (K:W.Frag) (a:Addr):It:=
 ⟨fun i H=>∃xs x,SqL K H a xs∧xs[i]?=some x,fun i H x H'=>H'=H∧∀xs,SqL K H a xs->xs[i]?=some x,fun i H=>∃xs,SqL K H a xs∧xs.length<=i⟩
def Itt (K:W.Frag) (a:Addr):It:=
 ⟨fun i H=>∃xs x,SqT K H a xs∧xs[i]?=some x,fun i H x H'=>H'=H∧∀xs,SqT K H a xs->xs[i]?=some x,fun i H=>∃xs,SqT K H a xs∧xs.length<=i⟩
def Itr (lo:Int) (n:Nat):It:=⟨fun i _=>i < n,fun i H x H'=>H'=H∧x=.int (lo+i),fun i _=>n<=i⟩
theorem turn_list {P:Program} {w:World} {K:W.Frag} {tg:Expr} (a it:Addr):Turn P w K tg (Itl K a) [it] it (fun i h=>h.IsListIter it a i) where
 mem:=by simp
 obj:=fun i h st b hb=>by
  have e:b=it:=by simpa using hb
  subst e
  obtain⟨o,e,c,d⟩:=st
  exact⟨o,e,fun v z=>by rw [d] at z;cases z⟩
 keep:=fun i h h' st k=>st.at fun o e=>k it (by simp) o e
 item:=by
  intro X hP hw hK hc i pins s σ H E I hf st hg
  subst hP hw hK
  obtain⟨xs,x,hq,hx⟩:=hg
  obtain⟨its,rv,p,hz⟩:=I.list hq
  obtain⟨u,hu,ru⟩:=rv.get hx
  obtain⟨f0,f1,f2,f3,f4,f5⟩:=hf it (by simp)
  refine wpAny_pyNext_list_item st p.isList (x:=u) (by simpa using hu) fun h' st' sb=>?_
  have I1:Inv X pins σ H { s with heap:=h' }:=I.turned (t':=s.toks) (fun b o hb e=>(sb.2 b hb).trans e) f0 f1 f3 f4 f5
  obtain⟨o,e,c,d⟩:=id st'
  exact⟨u,rfl,go_of (s:={ s with heap:=h' }) e c d (by decide) ⟨x,H,I1,ru,⟨rfl,fun ys hy=>by rw [I.list_inj hy hq];exact hx⟩,st',fun b hb=>(hf b hb).1⟩⟩
 done:=by
  intro X hP hw hK hc i pins s σ H E I hf st hg
  subst hP hw hK
  obtain⟨xs,hq,hx⟩:=hg
  obtain⟨its,rv,p,hz⟩:=I.list hq
  obtain⟨f0,f1,f2,f3,f4,f5⟩:=hf it (by simp)
  have hl:=rv.length
  exact wpAny_pyNext_list_end (I.ok.hd hc) st p.isList (by simp;omega) fun h' eb=>⟨rfl,I.turned (t':=s.toks) (fun b o hb e=>eb b o hb e) f0 f1 f3 f4 f5⟩
 self:=fun _ _ _ _ _ st h=>wpAny_pyIter_listiter st h
theorem turn_range {P:Program} {w:World} {K:W.Frag} {tg:Expr} (it:Addr) (lo:Int) (n:Nat):Turn P w K tg (Itr lo n) [it] it (fun i h=>IsRangeIter h it (lo+(i:Nat) * 1) ((n:Int) - (i:Nat)) 1) where
 mem:=by simp
 obj:=fun i h st b hb=>by
  have e:b=it:=by simpa using hb
  subst e
  exact⟨_,st,fun v z=>by
   have z':Data.fields _=Data.cell v:=z
   cases z'⟩
 keep:=fun i h h' st k=>k it (by simp) _ st
 item:=by
  intro X hP hw hK hc i pins s σ H E I hf st hg
  subst hP hw hK
  obtain⟨f0,f1,f2,f3,f4,f5⟩:=hf it (by simp)
  have W:=Walks.range (prog:=X.prog) (w:=X.w) (I.ok.hd hc) it lo 1 n
  refine W.item i s _ _ hg st fun v h' tk hv st' kk=>?_
  obtain⟨t,rfl⟩:=hv
  have I1:Inv X pins σ H { s with heap:=h',toks:=tk }:=I.turned (fun b o hb e=>kk b o (by simpa using hb) e) f0 f1 f3 f4 f5
  refine⟨_,rfl,go_of (s:={ s with heap:=h',toks:=tk }) (n := "range_iterator") st' rfl rfl (by decide) ⟨.int (lo+i),H,I1,⟨t,?_⟩,⟨rfl,rfl⟩,st',fun b hb=>(hf b hb).1⟩⟩
  rw [Int.mul_one]
 done:=by
  intro X hP hw hK hc i pins s σ H E I hf st hg
  subst hP hw hK
  obtain⟨f0,f1,f2,f3,f4,f5⟩:=hf it (by simp)
  exact wpAny_pyNext_range_end (I.ok.hd hc) st (by have:n<=i:=hg;omega) fun h' eb=>⟨rfl,I.turned (t':=s.toks) (fun b o hb e=>eb b o hb e) f0 f1 f3 f4 f5⟩
 self:=fun _ _ _ _ _ st h=>wpAny_pyIter_rangeiter st h
section
variable {X:Cx} {tg:Expr}
def iList (K:W.Frag) (tl:TE):TI:=fun σ H R=>tl σ H fun x H1=>∃a,x=.ref a∧(∃xs,SqL K H1 a xs)∧R (Itl K a) H1
def iTup (K:W.Frag) (tl:TE):TI:=fun σ H R=>tl σ H fun x H1=>∃a,x=.ref a∧(∃xs,SqT K H1 a xs)∧R (Itt K a) H1
theorem pi_list {l:Expr} {tl:TE} (hl:PE X l tl):PI X tg l (iList X.K tl):=by
 intro pins s σ H R I h
 refine thn (hl pins s σ H _ I h) fun v s1 ⟨x,H1,I1,r1,q1⟩=>?_
 obtain⟨a,e,⟨xs,hq⟩,q⟩:=q1
 subst e
 cases r1
 obtain⟨its,rv,p,hz⟩:=I1.list hq
 refine wpAny_pyIter_list p.isList ?_
 refine⟨s1.heap.objs.size,[s1.heap.objs.size],_,_,H1,rfl,I1.kept (t':=s1.toks) fun b o e=>Heap.get?_push_of_some _ e,turn_list a _,⟨_,Heap.get?_push_size _ rfl,rfl,rfl⟩,fun b hb=>?_,q⟩
 have e:b=s1.heap.objs.size:=by simpa using hb
 subst e
 exact I1.fpOk (Nat.le_refl _) (I1.hok.fresh (Nat.le_refl _))
theorem range_it {pins:List (Addr×Obj)} {σ:St} {H:Hp} {s:Shared} {R:It->Hp->Prop} {E:Value->Shared->Prop} {lo hi:Int} {t u v:Tok} {tk:Nat} (I:Inv X pins σ H s) (h1:-(2 ^ 62)<=lo) (h2:lo < 2 ^ 62) (h3:-(2 ^ 62)<=hi) (h4:hi < 2 ^ 62)
  (q:R (Itr lo (hi - lo).toNat) H):wpAny (model X.prog X.w) X.A (pyIter (.ref s.heap.objs.size)) (PIE X pins σ tg R) E { s with heap:=s.heap.push { cls:=.type "range",data:=.fields #[.int lo t,.int hi u,.int 1 v] },toks:=tk }:=by
 refine wpAny_pyIter_range (IsRange.new ..) (small_one h1 h2 h3 h4) ?_
 have I1:Inv X pins σ H { s with heap:=s.heap.push { cls:=.type "range",data:=.fields #[.int lo t,.int hi u,.int 1 v] },toks:=tk }:=I.kept fun b o e=>Heap.get?_push_of_some _ e
 refine⟨(s.heap.push { cls:=.type "range",data:=.fields #[.int lo t,.int hi u,.int 1 v] }).objs.size,[(s.heap.push { cls:=.type "range",data:=.fields #[.int lo t,.int hi u,.int 1 v] }).objs.size],_,_,H,rfl,
  I1.kept (t':=tk) fun b o e=>Heap.get?_push_of_some _ e,turn_range _ lo (hi - lo).toNat,?_,fun b hb=>?_,q⟩
 ·have e1:lo+((0:Nat):Int) * 1=lo:=by simp
  have e2:(((hi - lo).toNat:Nat):Int) - ((0:Nat):Int)=Builtin.Range.rangeSize lo hi 1:=by rw [rangeSize_one];split <;> omega
  show IsRangeIter _ _ (lo+((0:Nat):Int) * 1) ((((hi - lo).toNat:Nat):Int) - ((0:Nat):Int)) 1
  rw [e1,e2]
  exact Heap.get?_push_size _ rfl
 ·have e:b=(s.heap.push { cls:=.type "range",data:=.fields #[.int lo t,.int hi u,.int 1 v] }).objs.size:=by simpa using hb
  subst e
  exact I1.fpOk (Nat.le_refl _) (I1.hok.fresh (Nat.le_refl _))
def iRng1 (ta:TA):TI:=fun σ H R=>ta σ H fun vs H1=>∃j:Int,vs=[.int j]∧-(2 ^ 62)<=j∧j < 2 ^ 62∧R (Itr 0 j.toNat) H1
def iRng2 (ta:TA):TI:=fun σ H R=>ta σ H fun vs H1=>∃i j:Int,vs=[.int i,.int j]∧(-(2 ^ 62)<=i∧i < 2 ^ 62∧-(2 ^ 62)<=j∧j < 2 ^ 62)∧R (Itr i (j - i).toNat) H1
theorem pi_range1 {a:Expr} {ta:TA} {p pos:Pos} (hg:Gl X "range") (hm:X.mg "range" = none) (ha:PA X [a] ta) (hs:starEach [a] X.env=[(false,eval a X.env)]:=by rfl):PI X tg (.Call (.Name "range" p) [a] [] pos) (iRng1 ta):=by
 intro pins s σ H R I h
 refine Call_ (ld_blt I hg hm boot_range (PyProof.Rows.callWith_type1 (thn (ha pos pins s σ H _ I h) fun us s1 ⟨vs,H1,I1,r1,q1⟩=>?_) hs rfl))
 obtain⟨j,e,q1,q2,q⟩:=q1
 subst e
 cases r1 with
 | cons r rr=>
  cases rr
  obtain⟨t,rfl⟩:=r
  exact call_range_1 (range_it I1 (by omega) (by omega) q1 q2 (by simpa using q))
def tFor (wi:TI) (g:TG) (tb:TS):TS:=fun D σ H=>wi σ H fun J H1=>∃W:Nat->Nat->St->Hp->Prop,(∃m,W 0 m σ H1)∧∀i m σ H,W i m σ H->
 (J.stop i H∧D.nx σ H)∨(J.go i H∧∃N:St->Hp->Prop,(∀σ' H',N σ' H'->∃m',m' < m∧W (i+1) m' σ' H')∧∀x H',J.yld i H x H'->g x σ H' fun σ2 H2=>tb { D with nx:=N,ct:=N,bk:=D.nx } σ2 H2)
def pinsAt (fp:List Addr) (h:Heap):List (Addr×Obj):=fp.filterMap fun b=>(h.get? b).map fun o=>(b,o)
theorem mem_pinsAt {fp:List Addr} {h:Heap} {b:Addr} {o:Obj} (hb:b∈fp) (e:h.get? b=some o):(b,o)∈pinsAt fp h:=List.mem_filterMap.mpr ⟨b,hb,by rw [e];rfl⟩
theorem of_pinsAt {fp:List Addr} {h:Heap} {p:Addr×Obj} (hp:p∈pinsAt fp h):p.1∈fp∧h.get? p.1=some p.2:=by
 obtain⟨b,hb,e⟩:=List.mem_filterMap.mp hp
 cases q:h.get? b with
 | none=>rw [q] at e;cases e
 | some o=>
  rw [q] at e
  have e':(b,o)=p:=Option.some.inj e
  subst e'
  exact⟨hb,q⟩
theorem Inv.pinned {pins:List (Addr×Obj)} {σ:St} {H:Hp} {s:Shared} {fp:List Addr} (I:Inv X pins σ H s) (hf:∀b∈fp,FpOk X pins H b) (ho:∀b∈fp,∃o,s.heap.get? b=some o∧∀v,o.data≠.cell v):Inv X (pins++pinsAt fp s.heap) σ H s:=
 I.pins_of fun p hp=>(List.mem_append.mp hp).elim (fun z=>I.pin p (List.mem_append_right _ z)) fun z=>by
  obtain⟨hb,e⟩:=of_pinsAt z
  obtain⟨f0,f1,f2,_⟩:=hf p.1 hb
  obtain⟨o,e',d⟩:=ho p.1 hb
  rw [e] at e';cases e'
  exact⟨e,f0,f1,f2,d⟩
theorem Inv.unpinned {pins pl:List (Addr×Obj)} {σ:St} {H:Hp} {s:Shared} (I:Inv X (pins++pl) σ H s):Inv X pins σ H s:=I.pins_of fun p hp=>I.pin p (List.mem_append_right _ (List.mem_append_left _ hp))
theorem ps_for {iter:Expr} {body:List Stmt} {wi:TI} {g:TG} {tb:TS} {pos:Pos} (hp:PassesOwn (model X.prog X.w) X.A X.env X.xe) (hc:X.calm=true) (hi:PI X tg iter wi) (hg:PG X tg g) (hb:PSs X body tb)
  (hs:∀x,foldedSetIterable iter X.env x=pure x:=by intro _;rfl):PS X (.For tg iter body [] pos) (tFor wi g tb):=by
 intro pins s σ H D I h
 refine wpAny_For (thn (hi pins s σ H _ I h) fun v s1 h1=>thn h1 fun itv s2 h2=>?_) hs
 obtain⟨it,fp,tn,J,H2,e,I2,T,st2,f2,W,⟨m0,w0⟩,turn⟩:=h2
 subst e
 have stat:∀{H':Hp},(∀b∈fp,H' b=none)->∀b∈fp,FpOk X pins H' b:=fun hn b hb=>⟨hn b hb,(f2 b hb).2⟩
 refine codeAny_forLoop_any (fun n s'=>∃i σ' H',Inv X pins σ' H' s'∧tn i s'.heap∧(∀b∈fp,H' b=none)∧W i n σ' H') ?_ m0 ⟨0,σ,H2,I2,st2,fun b hb=>(f2 b hb).1,w0⟩
 rintro n s3 ⟨i,σ3,H3,I3,st3,fr3,w3⟩
 rcases turn i n σ3 H3 w3 with ⟨stop,qn⟩ | ⟨go,N,hN,step⟩
 ·refine wpAny_passesOwn hp (thn (T.done X rfl rfl rfl hc i pins s3 σ3 H3 X.xe I3 (stat fr3) st3 stop) fun r s4 ⟨hr,I4⟩=>?_)
  subst hr
  exact wpAny_execs_nil ⟨σ3,H3,I4,qn⟩
 ·refine wpAny_passesOwn hp (thn (T.item X rfl rfl rfl hc i pins s3 σ3 H3 X.xe I3 (stat fr3) st3 go) fun r s4 ⟨u,hr,h4⟩=>?_)
  subst hr
  refine wpAny_passesOwn hp (thn h4 fun _ s5 ⟨x,H5,I5,r5,y5,st5,fr5⟩=>?_)
  have I5':=I5.pinned (stat fr5) (T.obj _ _ st5)
  refine wpAny_passesOwn hp (thn (hg _ s5 σ3 H5 x u _ I5' r5 (step x H5 y5)) fun _ s6 ⟨σ6,H6,I6,q6⟩=>?_)
  refine wpAny_passesOwn hp (thn (hb _ s6 σ6 H6 _ I6 q6) fun f s7 q7=>?_)
  have again:∀{σ7:St} {H7:Hp},Inv X (pins++pinsAt fp s5.heap) σ7 H7 s7->N σ7 H7->∃m,m < n∧∃i σ' H',Inv X pins σ' H' s7∧tn i s7.heap∧(∀b∈fp,H' b=none)∧W i m σ' H':=fun {σ7 H7} I7 n7=>by
   obtain⟨m',hm,w7⟩:=hN σ7 H7 n7
   refine⟨m',hm,i+1,σ7,H7,I7.unpinned,T.keep _ _ _ st5 fun b hb o e=>(I7.pin (b,o) (List.mem_append_right _ (List.mem_append_right _ (mem_pinsAt hb e)))).1,fun b hb=>?_,w7⟩
   obtain⟨o,e,d⟩:=T.obj _ _ st5 b hb
   exact (I7.pin (b,o) (List.mem_append_right _ (List.mem_append_right _ (mem_pinsAt hb e)))).2.1
  cases f with
  | next=>obtain⟨σ7,H7,I7,n7⟩:=q7;exact again I7 n7
  | cont=>obtain⟨σ7,H7,I7,n7⟩:=q7;exact again I7 n7
  | brk=>obtain⟨σ7,H7,I7,q7⟩:=q7;exact⟨σ7,H7,I7.unpinned,q7⟩
  | ret v=>obtain⟨x7,σ7,H7,I7,r7,q7⟩:=q7;exact⟨x7,σ7,H7,I7.unpinned,r7,q7⟩
end
theorem for_list {K:W.Frag} {a:Addr} {xs:List V} {g:TG} {tb:TS} {D:Ends} {σ:St} {H:Hp} (Pv:Nat->St->Hp->Prop) (h0:Pv 0 σ H) (hl:∀i σ H,i<=xs.length->Pv i σ H->SqL K H a xs)
  (hs:∀i x σ H,xs[i]?=some x->Pv i σ H->g x σ H fun σ2 H2=>tb { D with nx:=Pv (i+1),ct:=Pv (i+1),bk:=D.nx } σ2 H2) (hd:∀σ H,Pv xs.length σ H->D.nx σ H):
  ∃W:Nat->Nat->St->Hp->Prop,(∃m,W 0 m σ H)∧∀i m σ H,W i m σ H->
   ((Itl K a).stop i H∧D.nx σ H)∨((Itl K a).go i H∧∃N:St->Hp->Prop,(∀σ' H',N σ' H'->∃m',m' < m∧W (i+1) m' σ' H')∧∀x H',(Itl K a).yld i H x H'->g x σ H' fun σ2 H2=>tb { D with nx:=N,ct:=N,bk:=D.nx } σ2 H2):=by
 refine⟨fun i m σ H=>m=xs.length - i∧i<=xs.length∧Pv i σ H,⟨xs.length,by simp,Nat.zero_le _,h0⟩,?_⟩
 rintro i m σ H ⟨rfl,hi,p⟩
 have q:=hl i σ H hi p
 by_cases hlt:i < xs.length
 ·refine .inr ⟨⟨xs,xs[i],q,by simp [hlt]⟩,Pv (i+1),fun σ' H' p'=>⟨xs.length - (i+1),by omega,rfl,hlt,p'⟩,fun x H' y=>?_⟩
  obtain⟨e,y⟩:=y
  subst e
  exact hs i x σ _ (y xs q) p
 ·have e:i=xs.length:=by omega
  subst e
  exact .inl ⟨⟨xs,q,Nat.le_refl _⟩,hd σ H p⟩
theorem for_range {lo:Int} {n:Nat} {g:TG} {tb:TS} {D:Ends} {σ:St} {H:Hp} (Pv:Nat->St->Hp->Prop) (h0:Pv 0 σ H)
  (hs:∀i σ H,i < n->Pv i σ H->g (.int (lo+i)) σ H fun σ2 H2=>tb { D with nx:=Pv (i+1),ct:=Pv (i+1),bk:=D.nx } σ2 H2) (hd:∀σ H,Pv n σ H->D.nx σ H):
  ∃W:Nat->Nat->St->Hp->Prop,(∃m,W 0 m σ H)∧∀i m σ H,W i m σ H->
   ((Itr lo n).stop i H∧D.nx σ H)∨((Itr lo n).go i H∧∃N:St->Hp->Prop,(∀σ' H',N σ' H'->∃m',m' < m∧W (i+1) m' σ' H')∧∀x H',(Itr lo n).yld i H x H'->g x σ H' fun σ2 H2=>tb { D with nx:=N,ct:=N,bk:=D.nx } σ2 H2):=by
 refine⟨fun i m σ H=>m=n - i∧i<=n∧Pv i σ H,⟨n,by simp,Nat.zero_le _,h0⟩,?_⟩
 rintro i m σ H ⟨rfl,hi,p⟩
 by_cases hlt:i < n
 ·refine .inr ⟨hlt,Pv (i+1),fun σ' H' p'=>⟨n - (i+1),by omega,rfl,hlt,p'⟩,fun x H' y=>?_⟩
  obtain⟨e,y⟩:=y
  subst e y
  exact hs i σ _ hlt p
 ·have e:i=n:=by omega
  subst e
  exact .inl ⟨Nat.le_refl _,hd σ H p⟩
abbrev R2:=V->V->Hp->VK->Prop
def OpR (X:Cx) (f:Value->Value->Sem Value) (r:R2):Prop:=
 ∀(pins:List (Addr×Obj)) (s:Shared) (σ:St) (H:Hp) (x y:V) (v u:Value) (Q:VK),Inv X pins σ H s->RelV x v->RelV y u->r x y H Q->
  wpAny (model X.prog X.w) X.A (f v u) (EP X pins σ Q) X.xe s
def UnR (X:Cx) (f:Value->Sem Value) (r:V->Hp->VK->Prop):Prop:=
 ∀(pins:List (Addr×Obj)) (s:Shared) (σ:St) (H:Hp) (x:V) (v:Value) (Q:VK),Inv X pins σ H s->RelV x v->r x H Q->
  wpAny (model X.prog X.w) X.A (f v) (EP X pins σ Q) X.xe s
def CallR (X:Cx) (f:Value) (r:List V->Hp->VK->Prop):Prop:=
 ∀(pins:List (Addr×Obj)) (s:Shared) (σ:St) (H:Hp) (xs:List V) (us:List Value) (Q:VK),Inv X pins σ H s->Vals xs us->r xs H Q->
  wpAny (model X.prog X.w) X.A (call f us) (EP X pins σ Q) X.xe s
def tOp (r:R2) (ta tb:TE):TE:=fun σ H Q=>ta σ H fun x H1=>tb σ H1 fun y H2=>r x y H2 Q
def tUn (r:V->Hp->VK->Prop) (ta:TE):TE:=fun σ H Q=>ta σ H fun x H1=>r x H1 Q
def rI (C:Int->Int->Prop) (g:Int->Int->V):R2:=fun x y H Q=>∃i j,x=.int i∧y=.int j∧C i j∧Q (g i j) H
def rI0 (g:Int->Int->V):R2:=fun x y H Q=>∃i j,x=.int i∧y=.int j∧Q (g i j) H
def rU (g:Int->V):V->Hp->VK->Prop:=fun x H Q=>∃i,x=.int i∧Q (g i) H
section
variable {X:Cx} {a b c:Expr} {ta tb tc:TE} {pos:Pos}
theorem binT (ha:PE X a ta) (hb:PE X b tb) {pins:List (Addr×Obj)} {s:Shared} {σ:St} {H:Hp} {R:V->V->Hp->Prop} (I:Inv X pins σ H s)
  (h:ta σ H fun x H1=>tb σ H1 fun y H2=>R x y H2) {Q:Value->Shared->Prop} {f:Value->Value->Sem Value}
  (hf:∀v u s2 x y H2,Inv X pins σ H2 s2->RelV x v->RelV y u->R x y H2->wpAny (model X.prog X.w) X.A (f v u) Q X.xe s2):
  wpAny (model X.prog X.w) X.A (eval a X.env) (fun v s₁=>wpAny (model X.prog X.w) X.A (eval b X.env) (fun u s₂=>wpAny (model X.prog X.w) X.A (f v u) Q X.xe s₂) X.xe s₁) X.xe s:=by
 refine thn (ha pins s σ H _ I h) fun v s1 ⟨x,H1,I1,r1,q1⟩=>?_
 refine thn (hb pins s1 σ H1 _ I1 q1) fun u s2 ⟨y,H2,I2,r2,q2⟩=>?_
 exact hf v u s2 x y H2 I2 r1 r2 q2
theorem pe_op {op:Operator} {r:R2} (ho:OpR X (binaryOp op) r) (ha:PE X a ta) (hb:PE X b tb):PE X (.BinOp a op b pos) (tOp r ta tb):=by
 intro pins s σ H Q I h
 exact wpAny_BinOp (binT ha hb I h fun v u s2 x y H2 I2 rx ry q=>ho pins s2 σ H2 x y v u Q I2 rx ry q)
theorem pe_un {op:UnaryOp} {r:V->Hp->VK->Prop} (ho:UnR X (unaryOp op) r) (ha:PE X a ta):PE X (.UnaryOp op a pos) (tUn r ta):=by
 intro pins s σ H Q I h
 exact UnaryOp_ (thn (ha pins s σ H _ I h) fun v s1 ⟨x,H1,I1,r1,q1⟩=>ho pins s1 σ H1 x v Q I1 r1 q1)
theorem opI {f:Value->Value->Sem Value} {C:Int->Int->Prop} {g:Int->Int->Int}
  (rule:∀(i j:Int) (t u:Tok) (s:Shared) (Q:Value->Shared->Prop) (E:Value->Shared->Prop),C i j->Q (.int (g i j) s.toks) { s with toks:=s.toks+1 }->wpAny (model X.prog X.w) X.A (f (.int i t) (.int j u)) Q E s):
  OpR X f (rI C fun i j=>.int (g i j)):=by
 intro pins s σ H x y v u Q I rx ry h
 obtain⟨i,j,rfl,rfl,hc,q⟩:=h
 obtain⟨t,rfl⟩:=rx
 obtain⟨t',rfl⟩:=ry
 exact rule i j t t' s _ _ hc ⟨.int (g i j),H,I.tok _,⟨_,rfl⟩,q⟩
theorem opI0 {f:Value->Value->Sem Value} {g:Int->Int->Int}
  (rule:∀(i j:Int) (t u:Tok) (s:Shared) (Q:Value->Shared->Prop) (E:Value->Shared->Prop),Q (.int (g i j) s.toks) { s with toks:=s.toks+1 }->wpAny (model X.prog X.w) X.A (f (.int i t) (.int j u)) Q E s):
  OpR X f (rI0 fun i j=>.int (g i j)):=by
 intro pins s σ H x y v u Q I rx ry h
 obtain⟨i,j,rfl,rfl,q⟩:=h
 obtain⟨t,rfl⟩:=rx
 obtain⟨t',rfl⟩:=ry
 exact rule i j t t' s _ _ ⟨.int (g i j),H,I.tok _,⟨_,rfl⟩,q⟩
theorem opB0 {f:Value->Value->Sem Value} {g:Int->Int->Bool}
  (rule:∀(i j:Int) (t u:Tok) (s:Shared) (Q:Value->Shared->Prop) (E:Value->Shared->Prop),Q (.bool (g i j)) s->wpAny (model X.prog X.w) X.A (f (.int i t) (.int j u)) Q E s):
  OpR X f (rI0 fun i j=>.bl (g i j)):=by
 intro pins s σ H x y v u Q I rx ry h
 obtain⟨i,j,rfl,rfl,q⟩:=h
 obtain⟨t,rfl⟩:=rx
 obtain⟨t',rfl⟩:=ry
 exact rule i j t t' s _ _ ⟨.bl (g i j),H,I,rfl,q⟩
def CDiv (i j:Int):Prop:=0 < j∧j < 1073741824
def CPow (i j:Int):Prop:=0<=j∧j<=1000000∧i.natAbs < 2 ^ 64
def CMul (i j:Int):Prop:=(-(2 ^ 64) < i∧i < 2 ^ 64)∨(-(2 ^ 64) < j∧j < 2 ^ 64)
theorem CMul.ok {i j:Int} (h:CMul i j):IntMulOk i j:=by
 rcases h with ⟨h1,h2⟩ | ⟨h1,h2⟩
 ·exact .of_left (intBits_le_64 h1 h2)
 ·exact .of_right (intBits_le_64 h1 h2)
theorem op_add:OpR X (binaryOp .Add) (rI0 fun i j=>.int (i+j)):=opI0 fun _ _ _ _ _ _ _ q=>add_int q
theorem op_sub:OpR X (binaryOp .Sub) (rI0 fun i j=>.int (i - j)):=opI0 fun _ _ _ _ _ _ _ q=>sub_int q
theorem op_mul:OpR X (binaryOp .Mult) (rI CMul fun i j=>.int (i * j)):=opI fun _ _ _ _ _ _ _ hc q=>mul_int q hc.ok
theorem op_fdiv:OpR X (binaryOp .FloorDiv) (rI CDiv fun i j=>.int (i / j)):=opI fun i j _ _ _ _ _ hc q=>by
 have h1:(0:Int) < j:=hc.1
 have h2:j < 1073741824:=hc.2
 exact floordiv_int (by omega) (by rw [Int.fdiv_eq_ediv_of_nonneg i (by omega)];exact q) (.inl (PyProof.noPylong_small (by omega)))
theorem op_mod:OpR X (binaryOp .Mod) (rI (fun _ j=>0 < j) fun i j=>.int (i % j)):=opI fun i j _ _ _ _ _ hc q=>by
 have h1:(0:Int) < j:=hc
 exact mod_int' (by omega) (by rw [Int.fmod_eq_emod_of_nonneg i (by omega)];exact q)
theorem op_pow:OpR X (binaryOp .Pow) (rI CPow fun i j=>.int (i ^ j.toNat)):=opI fun _ _ _ _ _ _ _ hc q=>pow_int_small hc.1 hc.2.1 hc.2.2 q
theorem unI {f:Value->Sem Value} {g:Int->Int}
  (rule:∀(i:Int) (t:Tok) (s:Shared) (Q:Value->Shared->Prop) (E:Value->Shared->Prop),Q (.int (g i) s.toks) { s with toks:=s.toks+1 }->wpAny (model X.prog X.w) X.A (f (.int i t)) Q E s):
  UnR X f (rU fun i=>.int (g i)):=by
 intro pins s σ H x v Q I rx h
 obtain⟨i,rfl,q⟩:=h
 obtain⟨t,rfl⟩:=rx
 exact rule i t s _ _ ⟨.int (g i),H,I.tok _,⟨_,rfl⟩,q⟩
theorem un_neg:UnR X (unaryOp .USub) (rU fun i=>.int (-i)):=unI fun _ _ _ _ _ q=>neg_int q
end
def scal:V->V->Bool
 | .non,.non=>true | .non,.int _=>true | .int _,.non=>true | .non,.bl _=>true | .bl _,.non=>true | .non,.str _=>true | .str _,.non=>true
 | .int _,.int _=>true | .bl _,.bl _=>true | .str _,.str _=>true | .byt _,.byt _=>true
 | .int _,.str _=>true | .str _,.int _=>true | .bl _,.str _=>true | .str _,.bl _=>true
 | _,_=>false
def rEq:R2:=fun x y H Q=>scal x y=true∧Q (.bl (decide (x=y))) H
def rNe:R2:=fun x y H Q=>scal x y=true∧Q (.bl (!decide (x=y))) H
theorem dec_int {i j:Int}:decide (V.int i=V.int j)=(i == j):=by
 rw [Bool.eq_iff_iff]
 simp
theorem dec_bl {i j:Bool}:decide (V.bl i=V.bl j)=(i == j):=by
 rw [Bool.eq_iff_iff]
 simp
theorem dec_str {i j:Str}:decide (V.str i=V.str j)=(i == j):=by
 rw [Bool.eq_iff_iff]
 simp
theorem dec_byt {i j:Array UInt8}:decide (V.byt i=V.byt j)=(i.toList == j.toList):=by
 rw [Bool.eq_iff_iff]
 cases i
 cases j
 simp
section
variable {X:Cx} {a b c:Expr} {ta tb tc:TE} {pos:Pos}
theorem fin_bl {pins:List (Addr×Obj)} {σ:St} {H:Hp} {s:Shared} {Q:VK} {k k':Bool} (I:Inv X pins σ H s) (q:Q (.bl k) H) (e:k=k'):EP X pins σ Q (.bool k') s:=by
 subst e
 exact⟨.bl k,H,I,rfl,q⟩
theorem op_eq:OpR X (compareOp .Eq) rEq:=by
 intro pins s σ H x y v u Q I rx ry h
 obtain⟨hs,q⟩:=h
 cases x with
 | non=>
  cases rx
  cases y with
  | non=>cases ry;exact PySem.EqNone.eq_none_none (fin_bl I q (by simp))
  | bl j=>cases ry;exact PySem.EqNone.eq_none_bool (fin_bl I q (by simp))
  | int j=>obtain⟨t',rfl⟩:=ry;exact PySem.EqNone.eq_none_int (fin_bl I q (by simp))
  | str j=>obtain⟨t',rfl⟩:=ry;exact PySem.EqNone.eq_none_str (fin_bl I q (by simp))
  | _=>exact absurd (show false=true from hs) Bool.false_ne_true
 | bl i=>
  cases rx
  cases y with
  | non=>cases ry;exact PySem.EqNone.eq_bool_none (fin_bl I q (by simp))
  | bl j=>cases ry;exact eq_bool (fin_bl I q dec_bl)
  | str j=>obtain⟨t',rfl⟩:=ry;exact PySem.EqMixed.eq_bool_str (fin_bl I q (by simp))
  | _=>exact absurd (show false=true from hs) Bool.false_ne_true
 | int i=>
  obtain⟨t,rfl⟩:=rx
  cases y with
  | non=>cases ry;exact PySem.EqNone.eq_int_none (fin_bl I q (by simp))
  | int j=>obtain⟨t',rfl⟩:=ry;exact eq_int (fin_bl I q dec_int)
  | str j=>obtain⟨t',rfl⟩:=ry;exact PySem.EqMixed.eq_int_str (fin_bl I q (by simp))
  | _=>exact absurd (show false=true from hs) Bool.false_ne_true
 | str i=>
  obtain⟨t,rfl⟩:=rx
  cases y with
  | non=>cases ry;exact PySem.EqNone.eq_str_none (fin_bl I q (by simp))
  | bl j=>cases ry;exact PySem.EqMixed.eq_str_bool (fin_bl I q (by simp))
  | int j=>obtain⟨t',rfl⟩:=ry;exact PySem.EqMixed.eq_str_int (fin_bl I q (by simp))
  | str j=>obtain⟨t',rfl⟩:=ry;exact eq_str (fin_bl I q dec_str)
  | _=>exact absurd (show false=true from hs) Bool.false_ne_true
 | byt i=>
  obtain⟨t,rfl⟩:=rx
  cases y with
  | byt j=>obtain⟨t',rfl⟩:=ry;exact PySem.W.eq_bytes (fin_bl I q dec_byt)
  | _=>exact absurd (show false=true from hs) Bool.false_ne_true
 | _=>cases y <;> exact absurd (show false=true from hs) Bool.false_ne_true
theorem op_ne:OpR X (compareOp .NotEq) rNe:=by
 intro pins s σ H x y v u Q I rx ry h
 obtain⟨hs,q⟩:=h
 cases x with
 | non=>
  cases rx
  cases y with
  | non=>cases ry;exact PySem.EqNone.ne_none_none (fin_bl I q (by simp))
  | bl j=>cases ry;exact PySem.EqNone.ne_none_bool (fin_bl I q (by simp))
  | int j=>obtain⟨t',rfl⟩:=ry;exact PySem.EqNone.ne_none_int (fin_bl I q (by simp))
  | str j=>obtain⟨t',rfl⟩:=ry;exact PySem.EqNone.ne_none_str (fin_bl I q (by simp))
  | _=>exact absurd (show false=true from hs) Bool.false_ne_true
 | bl i=>
  cases rx
  cases y with
  | non=>cases ry;exact PySem.EqNone.ne_bool_none (fin_bl I q (by simp))
  | bl j=>cases ry;exact ne_bool (fin_bl I q (congrArg not dec_bl))
  | str j=>obtain⟨t',rfl⟩:=ry;exact PySem.EqMixed.ne_bool_str (fin_bl I q (by simp))
  | _=>exact absurd (show false=true from hs) Bool.false_ne_true
 | int i=>
  obtain⟨t,rfl⟩:=rx
  cases y with
  | non=>cases ry;exact PySem.EqNone.ne_int_none (fin_bl I q (by simp))
  | int j=>obtain⟨t',rfl⟩:=ry;exact ne_int (fin_bl I q (congrArg not dec_int))
  | str j=>obtain⟨t',rfl⟩:=ry;exact PySem.EqMixed.ne_int_str (fin_bl I q (by simp))
  | _=>exact absurd (show false=true from hs) Bool.false_ne_true
 | str i=>
  obtain⟨t,rfl⟩:=rx
  cases y with
  | non=>cases ry;exact PySem.EqNone.ne_str_none (fin_bl I q (by simp))
  | bl j=>cases ry;exact PySem.EqMixed.ne_str_bool (fin_bl I q (by simp))
  | int j=>obtain⟨t',rfl⟩:=ry;exact PySem.EqMixed.ne_str_int (fin_bl I q (by simp))
  | str j=>obtain⟨t',rfl⟩:=ry;exact ne_str (fin_bl I q (congrArg not dec_str))
  | _=>exact absurd (show false=true from hs) Bool.false_ne_true
 | byt i=>
  obtain⟨t,rfl⟩:=rx
  cases y with
  | byt j=>obtain⟨t',rfl⟩:=ry;exact PySem.W.ne_bytes (fin_bl I q (congrArg not dec_byt))
  | _=>exact absurd (show false=true from hs) Bool.false_ne_true
 | _=>cases y <;> exact absurd (show false=true from hs) Bool.false_ne_true
theorem op_lt:OpR X (compareOp .Lt) (rI0 fun i j=>.bl (decide (i < j))):=opB0 fun _ _ _ _ _ _ _ q=>lt_int q
theorem op_le:OpR X (compareOp .LtE) (rI0 fun i j=>.bl (decide (i<=j))):=opB0 fun _ _ _ _ _ _ _ q=>le_int q
theorem op_gt:OpR X (compareOp .Gt) (rI0 fun i j=>.bl (decide (j < i))):=opB0 fun _ _ _ _ _ _ _ q=>gt_int q
theorem op_ge:OpR X (compareOp .GtE) (rI0 fun i j=>.bl (decide (j<=i))):=opB0 fun _ _ _ _ _ _ _ q=>ge_int q
theorem op_isN:OpR X (compareOp .Is) (fun x y H Q=>y=.non∧Q (.bl (decide (x=.non))) H):=by
 intro pins s σ H x y v u Q I rx ry h
 obtain⟨rfl,q⟩:=h
 cases ry
 refine is_none_gen (fin_bl I q ?_)
 cases x <;> first
  |(cases rx;rfl)
  |(obtain⟨t,rfl⟩:=rx;rfl)
theorem nomark (b:Expr) {op:CmpOp} (h:op≠.In:=by decide) (h2:op≠.NotIn:=by decide):behindInMarks op b=false:=by
 have e1:(op == CmpOp.In)=false:=by cases op <;> first | rfl | exact absurd rfl h
 have e2:(op == CmpOp.NotIn)=false:=by cases op <;> first | rfl | exact absurd rfl h2
 cases b <;> simp [behindInMarks,e1,e2]
theorem pe_cmpR {op:CmpOp} {r:R2} (ho:OpR X (compareOp op) r) (ha:PE X a ta) (hb:PE X b tb) (hm:behindInMarks op b=false):PE X (.Compare a [op] [b] pos) (tOp r ta tb):=by
 intro pins s σ H Q I h
 exact wpAny_Compare1 (binT ha hb I h fun v u s2 x y H2 I2 rx ry q=>ho pins s2 σ H2 x y v u Q I2 rx ry q) hm
def tTest (t:TE):TT:=fun σ H Q=>t σ H fun x H'=>∃k,x=.bl k∧Q k H'
theorem pt_cmpR {op:CmpOp} {r:R2} (ho:OpR X (compareOp op) r) (ha:PE X a ta) (hb:PE X b tb) (hm:behindInMarks op b=false):PT X (.Compare a [op] [b] pos) (tTest (tOp r ta tb)):=by
 intro pins s σ H Q I h
 refine wpAny_isTrue_Compare1 (thn (ha pins s σ H _ I h) fun v s1 ⟨x,H1,I1,r1,q1⟩=>thn (hb pins s1 σ H1 _ I1 q1) fun u s2 ⟨y,H2,I2,r2,q2⟩=>
  thn (ho pins s2 σ H2 x y v u _ I2 r1 r2 q2) fun c s3 ⟨z,H3,I3,r3,k,e,q3⟩=>?_) hm
 subst e
 cases r3
 exact wpAny_truthy_bool ⟨H3,I3,q3⟩
def tChain (r r':R2) (ta tb tc:TE):TE:=fun σ H Q=>ta σ H fun x H1=>tb σ H1 fun y H2=>r x y H2 fun z H3=>∃k,z=.bl k∧
 (if k=true then tc σ H3 fun w' H4=>r' y w' H4 Q else Q (.bl false) H3)
theorem line63:(sizeLine:Nat) < 2 ^ 63:=by rw [sizeLine_eq];decide
theorem vals1 {x:V} {us:List Value} (r:Vals [x] us):∃u,us=[u]∧RelV x u:=by
 cases r with
 | cons r1 r2=>cases r2;exact⟨_,rfl,r1⟩
theorem vals2 {x y:V} {us:List Value} (r:Vals [x,y] us):∃u w',us=[u,w']∧RelV x u∧RelV y w':=by
 cases r with
 | cons r1 r2=>
  cases r2 with
  | cons r3 r4=>cases r4;exact⟨_,_,rfl,r1,r3⟩
theorem call_abs:CallR X (.builtin "abs") (fun xs H Q=>∃i,xs=[.int i]∧Q (.int (if i < 0 then -i else i)) H):=by
 intro pins s σ H xs us Q I r h
 obtain⟨i,rfl,q⟩:=h
 obtain⟨u,rfl,t,rfl⟩:=vals1 r
 exact call_abs_int fun u tk=>⟨.int (if i < 0 then -i else i),H,I.tok _,⟨_,rfl⟩,q⟩
theorem call_max2 (hc:X.calm=true):CallR X (.builtin "max") (fun xs H Q=>∃i j,xs=[.int i,.int j]∧Q (.int (if j > i then j else i)) H):=by
 intro pins s σ H xs us Q I r h
 obtain⟨i,j,rfl,q⟩:=h
 obtain⟨u,w',rfl,⟨t,rfl⟩,⟨t',rfl⟩⟩:=vals2 r
 refine max_two_ints (I.ok.hd hc) fun h' tk k=>⟨_,H,I.kept k,?_,q⟩
 by_cases hj:j > i
 ·rw [if_pos hj,if_pos hj];exact⟨_,rfl⟩
 ·rw [if_neg hj,if_neg hj];exact⟨_,rfl⟩
end
structure ObjM (h:Heap) (x dx C:Addr) (mA:Str->Option Value):Prop where
 obj:h.get? x=some (PySem.W.instObj C dx)
 ns:h.Ns1 dx mA
 ne:dx≠x
theorem lookIn_ns {h:Heap} {dx:Addr} {mA:Str->Option Value} (n:h.Ns1 dx mA):∃od,h.get? dx=some od∧∀name,PySem.W.lookIn name od=some (mA name):=by
 obtain⟨o,es,ep,ho,hd,hk,_,hm⟩:=n
 refine⟨o,ho,fun name=>?_⟩
 have e:=hm name
 unfold nsFind findBy at e
 rw [← Array.find?_toList] at e
 unfold PySem.W.lookIn
 rw [hd]
 dsimp only
 split
 ·rename_i y q
  rw [q] at e
  exact congrArg some e
 ·rename_i q
  rw [q] at e
  have a:es.toList.any (·.refKey)=false:=by
   rw [List.any_eq_false]
   intro y hy
   obtain⟨z,t,hkey⟩:=hk y (Array.mem_toList_iff.mp hy)
   simp [DictEntry.refKey,hkey]
  have a':¬es.toList.any (·.refKey)=true:=by rw [a];exact Bool.false_ne_true
  rw [if_neg a']
  exact congrArg some e
theorem ObjM.look {h:Heap} {x dx C:Addr} {mA:Str->Option Value} (I:ObjM h x dx C mA):∃od,PySem.W.InstAt h x (PySem.W.instObj C dx) C (some od)∧∀name,PySem.W.lookIn name od=some (mA name):=
 let ⟨od,ho,hl⟩:=lookIn_ns I.ns
 ⟨od,⟨I.obj,rfl,rfl,ho⟩,hl⟩
section
variable {prog:Program} {w:World} {A:Around} {E:Value->Shared->Prop} {s:Shared} {K:W.Frag} {x dx C f:Addr} {mA:Str->Option Value} {name:Str} {v:Value}
theorem get_map {expr:Bool} {Q:Value->Shared->Prop} (X:K.In s.heap) (I:ObjM s.heap x dx C mA) (hg:PySem.W.plainGet K C name=true) (hh:PySem.W.hasDictIn K C=true)
  (ha:PySem.W.findIn K (.ref C) name=some none) (hv:mA name=some v) (hv':PySem.W.handedIn v=true) (h:Q v { s with toks:=s.toks+1 }):
  wpAny (model prog w) A (getAttr (.ref x) name expr) Q E s:=by
 obtain⟨od,J,hl⟩:=I.look
 exact PySem.W.get_value X J (PySem.W.plainGet_of hg).1 (PySem.W.findObj_own hh ha rfl (by rw [hl,hv])) hv' h
theorem get_meth {pl:Sem Bool} {Q:Value×List Value->Shared->Prop} (X:K.In s.heap) (I:ObjM s.heap x dx C mA) (hg:PySem.W.plainGet K C name=true)
  (hf:PySem.W.findIn K (.ref C) name=some (some (.ref f))) (ht:PySem.W.isFn K (.ref f)=true) (hv:mA name=none) (h:Q (.ref f,[.ref x]) s):
  wpAny (model prog w) A (getMethod (.ref x) name pl) Q E s:=by
 obtain⟨od,J,hl⟩:=I.look
 exact PySem.W.method_fn X J (PySem.W.plainGet_of hg).1 (PySem.W.plainGet_of hg).2 hf (beq_iff_eq.mp ht) (by show (PySem.W.lookIn name od).map (·.isSome)=some false;rw [hl,hv];rfl) h
theorem set_map {ns:List Str} {Q:Unit->Shared->Prop} (X:K.In s.heap) (I:ObjM s.heap x dx C mA)
  (hs:PySem.W.findIn K (.ref C) "__setattr__" = some (some (.builtin "object.__setattr__"))) (hp:PySem.W.plainOver K C=true) (ht:PySem.W.takerIn K C name=some none) (hh:PySem.W.hasDictIn K C=true)
  (hw:PySem.Within mA ns) (hsz:ns.length<=sizeLine)
  (h:∀h',ObjM h' x dx C (fun y=>if y=name then some v else mA y)->Heap.SameBut dx s.heap h'->Q () { s with heap:=h',toks:=s.toks+2 }):
  wpAny (model prog w) A (setAttr (.ref x) name v) Q E s:=by
 obtain⟨od,J,hl⟩:=I.look
 refine PySem.W.set_plain X J hs (PySem.W.osa_open (s:={ s with toks:=s.toks+1 }) (r:=none) X J hp ht fun b=>?_)
 obtain⟨cd,hc,hd'⟩:=PySem.W.any_some hh
 have hx:s.heap.get? x=some ⟨.ref C,some dx,.plain,#[]⟩:=I.obj
 refine wpAny_bind (wpAny_pure (wpAny_bind (wpAny_bind (wpAny_loadPart hx (wpAny_bind (PySem.W.Looks.here (s:={ s with toks:=s.toks+1 }) (PySem.W.looks_clsIn X hc) ?_))))))
 rw [hd']
 refine wpAny_pure (a:=some dx) (wpAny_bind (wpAny_pure (wpAny_bind ?_)))
 refine wpAny_nsSet1 (s:={ s with toks:=s.toks+1 }) I.ns fun h' hn2 hs2=>?_
 obtain⟨oD,esD,epD,hoD,hdD,hcD⟩:=hn2.count (PySem.Within.cons name v hw)
 refine wpAny_bind (wpAny_lookBehind hoD (by rw [hdD];exact pastItsLine_dict (Nat.le_trans hcD (by rw [List.length_cons];omega))) ?_)
 exact wpAny_pure (h _ ⟨(hs2.2 _ (Ne.symm I.ne)).trans I.obj,hn2,I.ne⟩ hs2)
theorem make_map {R:Result->Shared->Prop} {vs:List Value} {kw:List (Str×Value)} (X:K.In s.heap) (hm:PySem.W.makesIn K C=true)
  (hi:PySem.W.findIn K (.ref C) "__init__" = some (some (.ref f))) (hf:PySem.W.typeIn K (.ref f)=some (.type "function"))
  (h:codeAny (model prog w) (A.under (.builtin "type.__call__" ⟨.ref C :: vs,kw⟩)) (.call (.ref f) ⟨.ref (s.heap.objs.size+1) :: vs,kw⟩) (PySem.W.InitBack (s.heap.objs.size+1) R)
   { s with heap:=(s.heap.push PySem.W.emptyDict).push (PySem.W.instObj C s.heap.objs.size) }):
  codeAny (model prog w) A (.call (.ref C) ⟨vs,kw⟩) R s:=by
 obtain⟨hh,g,d,t,os⟩:=s
 exact PySem.W.make_core (PySem.W.makes_of X hm) (PySem.W.looks_findIn X hi) (fun self=>PySem.W.bind_fn X self hf) (.inl rfl) h
end
def putF (f:Str) (v:V):List (Str×V)->List (Str×V)
 | []=>[(f,v)]
 |(g,x) :: r=>if g=f then (g,v) :: r else (g,x) :: putF f v r
theorem lookup_putF (f g:Str) (v:V):∀fs:List (Str×V),(putF f v fs).lookup g=if g=f then some v else fs.lookup g
 | []=>by
  show List.lookup g [(f,v)]=_
  by_cases h:g=f
  ·have hb:(g == f)=true:=beq_iff_eq.mpr h
   simp only [List.lookup,hb,if_pos h]
  ·have hb:(g == f)=false:=beq_eq_false_iff_ne.mpr h
   simp only [List.lookup,hb,if_neg h]
 |(k,x) :: r=>by
  have ih:=lookup_putF f g v r
  rw [show putF f v ((k,x) :: r)=(if k=f then (k,v) :: r else (k,x) :: putF f v r) from rfl]
  by_cases hk:k=f
  ·rw [if_pos hk]
   by_cases h:g=k
   ·have hb:(g == k)=true:=beq_iff_eq.mpr h
    simp only [List.lookup,hb,if_pos (h.trans hk)]
   ·have hb:(g == k)=false:=beq_eq_false_iff_ne.mpr h
    simp only [List.lookup,hb,if_neg (fun e:g=f=>h (e.trans hk.symm))]
  ·rw [if_neg hk]
   by_cases h:g=k
   ·have hb:(g == k)=true:=beq_iff_eq.mpr h
    simp only [List.lookup,hb,if_neg (fun e:g=f=>hk (h.symm.trans e))]
   ·have hb:(g == k)=false:=beq_eq_false_iff_ne.mpr h
    simp only [List.lookup,hb]
    exact ih
theorem keys_putF (f:Str) (v:V):∀fs:List (Str×V),f∈(putF f v fs).map (·.1)∧∀g,g∈fs.map (·.1)->g∈(putF f v fs).map (·.1)
 | []=>⟨by simp [putF],fun g h=>by simp at h⟩
 |(k,x) :: r=>by
  obtain⟨i1,i2⟩:=keys_putF f v r
  rw [show putF f v ((k,x) :: r)=(if k=f then (k,v) :: r else (k,x) :: putF f v r) from rfl]
  by_cases hk:k=f
  ·rw [if_pos hk]
   subst hk
   exact⟨by simp,fun g h=>by simpa using h⟩
  ·rw [if_neg hk]
   refine⟨?_,fun g h=>?_⟩
   ·rw [List.map_cons]
    exact List.mem_cons_of_mem _ i1
   ·rw [List.map_cons] at h ⊢
    rcases List.mem_cons.mp h with e | e
    ·exact List.mem_cons.mpr (.inl e)
    ·exact List.mem_cons_of_mem _ (i2 g e)
theorem length_putF (f:Str) (v:V):∀fs:List (Str×V),(putF f v fs).length<=fs.length+1
 | []=>by simp [putF]
 |(k,x) :: r=>by
  have ih:=length_putF f v r
  rw [show putF f v ((k,x) :: r)=(if k=f then (k,v) :: r else (k,x) :: putF f v r) from rfl]
  by_cases hk:k=f
  ·rw [if_pos hk,List.length_cons,List.length_cons];omega
  ·rw [if_neg hk,List.length_cons,List.length_cons];omega
theorem RelO.some_of {v:V} {o:Option Value} (r:RelO (some v) o):∃u,o=some u∧RelV v u:=by
 cases o with
 | none=>exact (show False from r).elim
 | some u=>exact⟨u,rfl,r⟩
theorem RelO.none_of {o:Option Value} (r:RelO none o):o=none:=by
 cases o with
 | none=>rfl
 | some u=>exact (show False from r).elim
theorem handed_of {v:V} {u:Value} (r:RelV v u):PySem.W.handedIn u=true:=by
 cases v with
 | non=>cases (show u=Value.none from r);rfl
 | bl b=>cases (show u=Value.bool b from r);rfl
 | int i=>obtain⟨t,e⟩:=(show ∃t,u=Value.int i t from r);cases e;rfl
 | str x=>obtain⟨t,e⟩:=(show ∃t,u=Value.str x t from r);cases e;rfl
 | byt b=>obtain⟨t,e⟩:=(show ∃t,u=Value.bytes b t from r);cases e;rfl
 | flt b=>obtain⟨t,e⟩:=(show ∃t,u=Value.float b t from r);cases e;rfl
 | ref a=>cases (show u=Value.ref a from r);rfl
 | ty n=>cases (show u=Value.type n from r);rfl
section
variable {P:Program} {w:World} {H H':Hp} {h h':Heap} {a C dx:Addr} {fs fs':List (Str×V)}
theorem ins_get (hok:HOk P w H h) (e:H a=some (.ins C dx fs)):∃mA,ObjM h a dx C mA∧(∀f,RelO (fs.lookup f) (mA f))∧PySem.Within mA (fs.map (·.1))∧fs.length<=1000∧H dx=some (.own a):=by
 obtain⟨d,z,ne,ob,mA,n,r,q⟩:=(show ObjOk P w H h a (.ins C dx fs) from hok a _ e)
 exact⟨mA,⟨ob,n,ne⟩,r,q,z,d⟩
end
structure Cls (K:W.Frag) (C:Addr):Prop where
 pg:PySem.W.plainGet K C Str.empty=true
 hd:PySem.W.hasDictIn K C=true
 po:PySem.W.plainOver K C=true
 sa:PySem.W.findIn K (.ref C) "__setattr__" = some (some (.builtin "object.__setattr__"))
theorem Cls.get {K:W.Frag} {C:Addr} (c:Cls K C) (f:Str):PySem.W.plainGet K C f=true:=c.pg
def NoAttr (K:W.Frag) (C:Addr) (f:Str):Prop:=PySem.W.findIn K (.ref C) f=some none
theorem NoAttr.taker {K:W.Frag} {C:Addr} {f:Str} (n:NoAttr K C f):PySem.W.takerIn K C f=some none:=by
 unfold PySem.W.takerIn
 rw [show PySem.W.findIn K (.ref C) f=some none from n]
 rfl
structure Meth (K:W.Frag) (C:Addr) (m:Str) (f:Addr):Prop where
 at_:PySem.W.findIn K (.ref C) m=some (some (.ref f))
 fn:PySem.W.isFn K (.ref f)=true
 kp:PySem.W.keepIn K (.ref f)=true
section
variable {X:Cx} {pins:List (Addr×Obj)} {σ:St} {H:Hp} {s:Shared} {a C dx:Addr} {fs:List (Str×V)} {f:Str} {v:V} {A:Around} {E:Value->Shared->Prop}
theorem getattr_ok {b:Bool} {Q:Value->Shared->Prop} (I:Inv X pins σ H s) (e:H a=some (.ins C dx fs)) (c:Cls X.K C) (n:NoAttr X.K C f) (l:fs.lookup f=some v)
  (h:∀u s',Inv X pins σ H s'->RelV v u->Q u s'):wpAny (model X.prog X.w) A (getAttr (.ref a) f b) Q E s:=by
 obtain⟨mA,O,r,_,_,_⟩:=ins_get I.hok e
 obtain⟨u,hu,ru⟩:=RelO.some_of (v:=v) (o:=mA f) (by rw [← l];exact r f)
 exact get_map I.kIn O (c.get f) c.hd n hu (handed_of ru) (h u _ (I.tok _) ru)
theorem getmeth_ok {m:Str} {g:Addr} {pl:Sem Bool} {Q:Value×List Value->Shared->Prop} (I:Inv X pins σ H s) (e:H a=some (.ins C dx fs)) (c:Cls X.K C) (k:Meth X.K C m g) (l:fs.lookup m=none)
  (h:Q (.ref g,[.ref a]) s):wpAny (model X.prog X.w) A (getMethod (.ref a) m pl) Q E s:=by
 obtain⟨mA,O,r,_,_,_⟩:=ins_get I.hok e
 have hn:mA m=none:=RelO.none_of (by rw [← l];exact r m)
 exact get_meth I.kIn O (c.get m) k.at_ k.fn hn h
theorem setattr_ok {y:V} {u:Value} {Q:Unit->Shared->Prop} (I:Inv X pins σ H s) (e:H a=some (.ins C dx fs)) (c:Cls X.K C) (n:NoAttr X.K C f) (hl:fs.length < 1000) (ry:RelV y u)
  (h:∀s',Inv X pins σ (upd H a (.ins C dx (putF f y fs))) s'->Q () s'):wpAny (model X.prog X.w) A (setAttr (.ref a) f u) Q E s:=by
 obtain⟨mA,O,r,wi,_,ho⟩:=ins_get I.hok e
 have hz:(fs.map (·.1)).length<=sizeLine:=by rw [List.length_map,sizeLine_eq];omega
 refine set_map I.kIn O c.sa c.po n.taker c.hd wi hz fun h' O' sb=>h _ ?_
 have hd:∃o,h'.get? dx=some o:=let ⟨o,_,_,e',_⟩:=O'.ns;⟨o,e'⟩
 refine I.write (x:=a) (e:=dx) (by rw [e];exact True.intro) (.inr ho) (fun b q hb z=>(sb.2 b hb).trans z) hd ?_
 refine⟨by rw [upd_ne O.ne];exact ho,?_,O.ne,O'.obj,_,O'.ns,fun g=>?_,fun g hg=>?_⟩
 ·have:=length_putF f y fs;omega
 ·show RelO ((putF f y fs).lookup g) (if g=f then some u else mA g)
  rw [lookup_putF]
  by_cases q:g=f
  ·rw [if_pos q,if_pos q];exact ry
  ·rw [if_neg q,if_neg q];exact r g
 ·by_cases q:g=f
  ·rw [q];exact (keys_putF f y fs).1
  ·refine (keys_putF f y fs).2 g (wi g fun z=>hg ?_)
   show (if g=f then some u else mA g)=none
   rw [if_neg q];exact z
theorem Inv.made (I:Inv X pins σ H s):Inv X pins σ (upd (upd H s.heap.objs.size (.own (s.heap.objs.size+1))) (s.heap.objs.size+1) (.ins C s.heap.objs.size []))
  { s with heap:=(s.heap.push PySem.W.emptyDict).push (PySem.W.instObj C s.heap.objs.size) }:=by
 have e1:(s.heap.push PySem.W.emptyDict).get? s.heap.objs.size=some PySem.W.emptyDict:=Heap.get?_push_size s.heap rfl
 have e2:((s.heap.push PySem.W.emptyDict).push (PySem.W.instObj C s.heap.objs.size)).get? (s.heap.objs.size+1)=some (PySem.W.instObj C s.heap.objs.size):=by
  have:=Heap.get?_push_size (s.heap.push PySem.W.emptyDict) (o:=PySem.W.instObj C s.heap.objs.size) rfl
  rwa [Heap.size_push] at this
 have e3:(s.heap.push PySem.W.emptyDict).Ns s.heap.objs.size (fun _=>none):=⟨PySem.W.emptyDict,#[],_,e1,rfl,(fun e he=>absurd he (by simp)),fun _=>rfl⟩
 have I1:=I.laid (a:=s.heap.objs.size) (o:=.own (s.heap.objs.size+1)) (h':=s.heap.push PySem.W.emptyDict) (t':=s.toks) (fun b u q=>Heap.get?_push_of_some _ q) (Nat.le_refl _) ⟨_,e1⟩
 refine I1.laid (a:=s.heap.objs.size+1) (o:=.ins C s.heap.objs.size []) (t':=s.toks) (fun b u q=>Heap.get?_push_of_some _ q) (Nat.le_of_eq (Heap.size_push _ _)) ?_
 have ne:s.heap.objs.size≠s.heap.objs.size+1:=Nat.ne_of_lt (Nat.lt_succ_self _)
 refine⟨by rw [upd_ne ne,upd_same],Nat.zero_le _,ne,e2,fun _=>none,(Heap.Ns1.of_empty e3).at fun o q=>Heap.get?_push_of_some _ q,fun _=>True.intro,fun y hy=>absurd rfl hy⟩
theorem attr_of {prog:Program} {w:World} {env:Env} {e:Expr} {f:Str} {pos:Pos} {s:Shared} {Q:Value->Shared->Prop} (hb:attributeBase e f env (eval e env)=eval e env)
  (h:wpAny (model prog w) A (eval e env) (fun o s₁=>wpAny (model prog w) A (getAttr o f true) Q E s₁) E s):wpAny (model prog w) A (eval (.Attribute e f pos) env) Q E s:=
 Attribute_any_ h (by rw [arm_eval_Attribute,hb])
end
def tFld (K:W.Frag) (ta:TE) (f:Str):TE:=fun σ H Q=>ta σ H fun x H1=>∃a C dx fs v,x=.ref a∧H1 a=some (.ins C dx fs)∧Cls K C∧NoAttr K C f∧fs.lookup f=some v∧Q v H1
def sFld (K:W.Frag) (ta tv:TE) (f:Str):TS:=fun D σ H=>tv σ H fun y H1=>ta σ H1 fun x H2=>∃a C dx fs,x=.ref a∧H2 a=some (.ins C dx fs)∧Cls K C∧NoAttr K C f∧fs.length < 1000∧
 D.nx σ (upd H2 a (.ins C dx (putF f y fs)))
section
variable {X:Cx} {o e value:Expr} {f:Str} {pos pos' tpos:Pos} {ta tv:TE}
theorem pe_fld (he:PE X e ta) (hb:attributeBase e f X.env (eval e X.env)=eval e X.env):PE X (.Attribute e f pos) (tFld X.K ta f):=by
 intro pins s σ H Q I h
 refine attr_of hb (thn (he pins s σ H _ I h) fun u s1 ⟨x,H1,I1,rx,a,C,dx,fs,v,ex,ea,c,n,l,q⟩=>?_)
 subst ex
 obtain rfl:u=Value.ref a:=rx
 exact getattr_ok I1 ea c n l fun u' s2 I2 ru=>⟨v,H1,I2,ru,q⟩
theorem ps_fld (ha:PE X o ta) (hv:PE X value tv) (hs:swapsWith value (some (.Attribute o f pos')) pos.line X.env=pure false):PS X (.Assign [.Attribute o f pos'] value pos) (sFld X.K ta tv f):=by
 intro pins s σ H D I h
 refine plainObj_wpAny_Assign_Attribute (thn (hv pins s σ H _ I h) fun u s1 ⟨y,H1,I1,ry,q⟩=>thn (ha pins s1 σ H1 _ I1 q) fun ov s2 ⟨x,H2,I2,rx,a,C,dx,fs,ex,ea,c,n,l,q2⟩=>?_) hs
 subst ex
 obtain rfl:ov=Value.ref a:=rx
 exact setattr_ok I2 ea c n l ry fun s3 I3=>⟨σ,_,I3,q2⟩
theorem methcall_of {pl:Sem Bool} {m:Str} {apos:Pos} {args:List Expr} {pins:List (Addr×Obj)} {s:Shared} {σ:St} {H:Hp} {Q:Value->Shared->Prop} {te:TE} (he:PE X e te) (I:Inv X pins σ H s)
  (h:te σ H fun x H1=>∃a C dx fs g,x=.ref a∧H1 a=some (.ins C dx fs)∧Cls X.K C∧Meth X.K C m g∧fs.lookup m=none∧
   ∀s1,Inv X pins σ H1 s1->wpAny (model X.prog X.w) X.A (callWith pos (.ref g) [.ref a] (backTo pos (starEach args X.env)) (backToKw pos (keywordEach [] X.env))) Q X.xe s1)
  (ht:eval (.Call (.Attribute e m apos) args [] pos) X.env=(do
   let ov ← eval e X.env
   standAt apos.atName
   let (f,first) ← holding [ov] (getMethod ov m pl)
   callWith pos f first (backTo pos (starEach args X.env)) (backToKw pos (keywordEach [] X.env)))):
  wpAny (model X.prog X.w) X.A (eval (.Call (.Attribute e m apos) args [] pos) X.env) Q X.xe s:=by
 refine PySem.W.methodCall_KW (pl:=pl) (thn (he pins s σ H _ I h) fun u s1 ⟨x,H1,I1,rx,a,C,dx,fs,g,ex,ea,c,k,l,q⟩=>?_) ht
 subst ex
 obtain rfl:u=Value.ref a:=rx
 exact getmeth_ok I1 ea c k l (q s1 I1)
end
section
variable {X:Cx} {pins:List (Addr×Obj)} {σ:St} {H:Hp} {s:Shared} {A:Around} {E:Value->Shared->Prop} {Q:Value->Shared->Prop} {c:Value} {b:Bool}
inductive TyOf (K:W.Frag) (H:Hp):V->Value->Prop where
 | non:TyOf K H .non (.type "NoneType")
 | bl (x:Bool):TyOf K H (.bl x) (.type "bool")
 | int (i:Int):TyOf K H (.int i) (.type "int")
 | str (x:Str):TyOf K H (.str x) (.type "str")
 | flt (x:UInt64):TyOf K H (.flt x) (.type "float")
 | lst {a:Addr} {xs:List V} (e:H a=some (.lst xs)):TyOf K H (.ref a) (.type "list")
 | frz {a:Addr} {o:Obj} {xs:List V} (e:H a=some (.frz o (.lst xs))):TyOf K H (.ref a) (.type "list")
 | tup {a:Addr} {xs:List V} (e:H a=some (.tup xs)):TyOf K H (.ref a) (.type "tuple")
 | dK {a:Addr} {kvs:List (Key×V)} (e:H a=some (.dK kvs)):TyOf K H (.ref a) (.type "dict")
 | dT {a:Addr} {kvs:List (List Key×V)} (e:H a=some (.dT kvs)):TyOf K H (.ref a) (.type "dict")
 | ins {a C dx:Addr} {fs:List (Str×V)} (e:H a=some (.ins C dx fs)) (cl:Cls K C) (ha:PySem.W.findIn K (.ref C) "__class__" = some (some (.builtin "object.__class__")))
   (hn:PySem.W.specialIn K (.builtin "object.__class__") "__get__" = some (some (.builtin "getset_descriptor.__get__"))) (htk:PySem.W.takesIn K (.builtin "object.__class__")=some true)
   (hm:PySem.W.mroIn K C (.type "object")=some true):TyOf K H (.ref a) (.ref C)
theorem isinst_ok {x:V} {u t:Value} (I:Inv X pins σ H s) (rx:RelV x u) (ty:TyOf X.K H x t) (e:PySem.W.kitOne X.K t c=some b) (h:∀tk,Q (.bool b) { s with toks:=tk }):
  wpAny (model X.prog X.w) A (call (.builtin "isinstance") [u,c]) Q E s:=by
 cases ty with
 | non=>cases (show u=Value.none from rx);exact PySem.W.kia_one PySem.W.kitx_none I.kIn True.intro e (fun z=>nomatch z) h
 | bl y=>cases (show u=Value.bool y from rx);exact PySem.W.kia_one PySem.W.kitx_bool I.kIn True.intro e (fun z=>nomatch z) h
 | int i=>obtain⟨t,q⟩:=(show ∃t,u=Value.int i t from rx);cases q;exact PySem.W.kia_one PySem.W.kitx_int I.kIn True.intro e (fun z=>nomatch z) h
 | str y=>obtain⟨t,q⟩:=(show ∃t,u=Value.str y t from rx);cases q;exact PySem.W.kia_one PySem.W.kitx_str I.kIn True.intro e (fun z=>nomatch z) h
 | flt y=>obtain⟨t,q⟩:=(show ∃t,u=Value.float y t from rx);cases q;exact PySem.W.kia_one PySem.W.kitx_float I.kIn True.intro e (fun z=>nomatch z) h
 | @lst a xs ea=>
  cases (show u=Value.ref a from rx)
  obtain⟨_,_,n,_,h1⟩:=(show ObjOk X.prog X.w H s.heap a (.lst xs) from I.hok a _ ea)
  exact PySem.W.kia_one PySem.W.kitx_list I.kIn ⟨_,h1,rfl⟩ e (fun z=>nomatch z) h
 | @frz a ob xs ea=>
  cases (show u=Value.ref a from rx)
  obtain⟨_,_,_,n,_,h1⟩:=(show ObjOk X.prog X.w H s.heap a (.frz ob (.lst xs)) from I.hok a _ ea)
  exact PySem.W.kia_one PySem.W.kitx_list I.kIn ⟨_,h1,rfl⟩ e (fun z=>nomatch z) h
 | @tup a xs ea=>
  cases (show u=Value.ref a from rx)
  obtain⟨_,_,_,p⟩:=(show ObjOk X.prog X.w H s.heap a (.tup xs) from I.hok a _ ea)
  obtain⟨o,h1,h2,_⟩:=p
  exact PySem.W.kia_one PySem.W.kitx_tuple I.kIn ⟨o,h1,h2⟩ e (fun z=>nomatch z) h
 | @dK a kvs ea=>
  cases (show u=Value.ref a from rx)
  obtain⟨_,_,vs,_,p⟩:=(show ObjOk X.prog X.w H s.heap a (.dK kvs) from I.hok a _ ea)
  obtain⟨o,es,ep,h1,h2,_⟩:=p
  exact PySem.W.kia_one PySem.W.kitx_dict I.kIn ⟨o,h1,h2.1⟩ e (fun z=>nomatch z) h
 | @dT a kvs ea=>
  cases (show u=Value.ref a from rx)
  obtain⟨_,_,xs,_,o,es,ep,h1,h2,_⟩:=(show ObjOk X.prog X.w H s.heap a (.dT kvs) from I.hok a _ ea)
  exact PySem.W.kia_one PySem.W.kitx_dict I.kIn ⟨o,h1,h2.1⟩ e (fun z=>nomatch z) h
 | @ins a C dx fs ea cl ha hn htk hm=>
  cases (show u=Value.ref a from rx)
  obtain⟨mA,O,_⟩:=ins_get I.hok ea
  obtain⟨od,J,_⟩:=O.look
  exact PySem.W.kia_one (PySem.W.kitx_own (cl.get _) cl.hd ha hn htk hm) I.kIn J e (fun z=>nomatch z) h
end
structure Room (k:Nat) (A:Around):Prop where
 hd:A.handled=none
 dp:A.depth+3 * k+5 < recursionLimit
 un:A.units+16 * k+200 < cLine
theorem Room.mono {j k:Nat} {A:Around} (r:Room k A) (h:j<=k):Room j A:=⟨r.hd,by have:=r.dp;omega,by have:=r.un;omega⟩
theorem Room.deeper {k:Nat} {A:Around} (r:Room (k+1) A) (env:Env):Room k (A.deeper env):=
 ⟨r.hd,by have:=r.dp;show A.depth+1+3 * k+5 < _;omega,by have:=r.un;show A.units+3+16 * k+200 < _;omega⟩
theorem make_depth {A:Around} {C:Addr} {us:List Value} {kw:List (Str×Value)}:(A.under (.builtin "type.__call__" ⟨.ref C :: us,kw⟩)).depth=A.depth+1:=by
 first | rfl | simp [Around.under,Code.weight,Code.isCreation,Code.isGuard,Code.isCaller,Code.frames,Code.isFrame,guardIds]
theorem make_units {A:Around} {C:Addr} {us:List Value} {kw:List (Str×Value)}:(A.under (.builtin "type.__call__" ⟨.ref C :: us,kw⟩)).units=A.units+1:=by
 first | rfl | simp [Around.under,Code.cUnits,Code.frames,Code.isFrame]
theorem Room.make {k:Nat} {A:Around} (r:Room (k+1) A) (C:Addr) (us:List Value) (kw:List (Str×Value)):Room k (A.under (.builtin "type.__call__" ⟨.ref C :: us,kw⟩)):=
 ⟨r.hd,by have:=r.dp;rw [make_depth];omega,by have:=r.un;rw [make_units];omega⟩
theorem Room.depth {k:Nat} {A:Around} (r:Room k A):A.depth < recursionLimit:=by have:=r.dp;omega
theorem Room.units {k:Nat} {A:Around} (r:Room k A):A.units+64 < cLine:=by have:=r.un;omega
def tNil:TA:=fun _ H Q=>Q [] H
def tCons (ta:TE) (tr:TA):TA:=fun σ H Q=>ta σ H fun x H1=>tr σ H1 fun xs H2=>Q (x :: xs) H2
section
variable {X:Cx} {e:Expr} {es:List Expr} {te:TE} {t:TA} {pos:Pos}
theorem pa_nil:PA X [] tNil:=fun _ _ _ _ H Q I h=>Calls.spliced_nil ⟨[],H,I,.nil,h⟩
theorem pa_cons (ha:PE X e te) (hr:PA X es t) (hs:starEach (e :: es) X.env=(false,eval e X.env) :: starEach es X.env:=by rfl):PA X (e :: es) (tCons te t):=by
 intro pos pins s σ H Q I h
 rw [hs]
 show wpAny _ _ (spliced ((false,eval e X.env) :: backTo pos (starEach es X.env))) _ _ s
 refine Calls.spliced_cons (thn (ha pins s σ H _ I h) fun u s1 ⟨x,H1,I1,r1,q1⟩=>?_)
 exact thn (hr pos pins s1 σ H1 _ I1 q1) fun us s2 ⟨xs,H2,I2,r2,q2⟩=>⟨x :: xs,H2,I2,.cons r1 r2,q2⟩
def tTup (t:TA):TE:=fun σ H Q=>t σ H fun xs H1=>xs.length<=sizeLine∧∀p,H1 p=none->Q (.ref p) (upd H1 p (.tup xs))
def tLst (t:TA):TE:=fun σ H Q=>t σ H fun xs H1=>xs.length<=sizeLine∧∀p,H1 p=none->Q (.ref p) (upd H1 p (.lst xs))
theorem pe_tup {x1} (h:PA X es t):PE X (.Tuple es x1 pos) (tTup t):=by
 intro pins s σ H Q I hq
 refine wpAny_Tuple_spliced (thn (h pos pins s σ H _ I hq) fun us s1 ⟨xs,H1,I1,r,z,q⟩=>⟨by rw [← r.length];exact z,?_⟩)
 have hf:H1 s1.heap.objs.size=none:=I1.hok.fresh (Nat.le_refl _)
 refine⟨.ref s1.heap.objs.size,upd H1 s1.heap.objs.size (.tup xs),I1.laid (t':=s1.toks) (fun b u e=>Heap.get?_push_of_some _ e) (Nat.le_refl _) ?_,rfl,q _ hf⟩
 exact⟨z,us,r,⟨_,Heap.get?_push_size _ rfl,rfl,_,rfl⟩⟩
theorem pe_lst (h:PA X es t):PE X (.List es pos) (tLst t):=by
 intro pins s σ H Q I hq
 refine wpAny_List_spliced (thn (h pos pins s σ H _ I hq) fun us s1 ⟨xs,H1,I1,r,z,q⟩=>⟨by rw [← r.length];exact z,?_⟩)
 have hf:H1 s1.heap.objs.size=none:=I1.hok.fresh (Nat.le_refl _)
 refine⟨.ref s1.heap.objs.size,upd H1 s1.heap.objs.size (.lst xs),I1.laid (t':=s1.toks) (fun b u e=>Heap.get?_push_of_some _ e) (Nat.le_refl _) ?_,rfl,q _ hf⟩
 exact⟨z,us,0,r,Heap.get?_push_size _ rfl⟩
end
abbrev Sp:=List V->Hp->VK->XK->Prop
abbrev CXT:=List Env->Hp->Shared->XK->Value->Shared->Prop
structure Env0 (P:Program) (w:World) (K:W.Frag) (mg:Str->Option Value) (base:Heap) (A:Around) (outer:List Env) (s:Shared) (H:Hp):Prop where
 frames:A.frames=some outer
 mod:Mod K mg base
 bs:∀b o,base.get? b=some o->s.heap.get? b=some o∧H b=none
 bsz:base.objs.size<=s.heap.objs.size
 funs:s.heap.FunFrames base outer
 frf:∀b∈frs outer,H b=none
 hok:HOk P w H s.heap
 bare:AllBare s.gens
def CE (outer:List Env) (P:Program) (w:World) (H:Hp) (s:Shared) (Q:VK) (u:Value) (s':Shared):Prop:=
 ∃v H',s'.os=s.os∧AllBare s'.gens∧Un (frs outer) [] H H' s.heap s'.heap∧HOk P w H' s'.heap∧RelV v u∧Q v H'
def CR (CX:CXT) (outer:List Env) (P:Program) (w:World) (H:Hp) (s:Shared) (Q:VK) (E:XK) (r:Result) (s':Shared):Prop:=
 match r with
 | .ok (.ret u)=>CE outer P w H s Q u s'
 | .ok _=>False
 | .error e=>CX outer H s E e s'
structure FnOk (P:Program) (w:World) (K:W.Frag) (mg:Str->Option Value) (base:Heap) (CX:CXT) (k:Nat) (f:Addr) (fd:FuncData) (ps:List Str) (sp:Sp):Prop where
 len:∀vs H Q E,sp vs H Q E->vs.length=ps.length
 run:∀(A:Around) (outer:List Env) (s:Shared) (H:Hp) (args:Args) (us:List Value) (vs:List V) (Q:VK) (E:XK),Room k A->Env0 P w K mg base A outer s H->BindsTo s fd args (ps.zip us)->Vals vs us->sp vs H Q E->
  codeAny (model P w) A (.call (.ref f) args) (CR CX outer P w H s Q E) s
theorem FnOk.mono {P:Program} {w:World} {K:W.Frag} {mg:Str->Option Value} {base:Heap} {CX:CXT} {j k:Nat} {f:Addr} {fd:FuncData} {ps:List Str} {sp:Sp} (F:FnOk P w K mg base CX j f fd ps sp) (h:j<=k):
  FnOk P w K mg base CX k f fd ps sp:=⟨F.len,fun A outer s H args us vs Q E hr=>F.run A outer s H args us vs Q E (hr.mono h)⟩
theorem Env0.make {P:Program} {w:World} {K:W.Frag} {mg:Str->Option Value} {base:Heap} {A:Around} {outer:List Env} {s:Shared} {H:Hp} (e:Env0 P w K mg base A outer s H) (C:Addr) (us:List Value) (kw:List (Str×Value)):
  Env0 P w K mg base (A.under (.builtin "type.__call__" ⟨.ref C :: us,kw⟩)) outer s H:=⟨by first | exact e.frames | (simpa [Around.under,Code.envs,Code.isFrame,pushEnvs] using e.frames),e.mod,e.bs,e.bsz,e.funs,e.frf,e.hok,e.bare⟩
section
variable {X:Cx} {pins:List (Addr×Obj)} {σ:St} {H:Hp} {s s':Shared}
theorem Inv.env0 (I:Inv X pins σ H s):Env0 X.prog X.w X.K X.mg X.base X.A X.stack s H:=
 ⟨I.ok.frames,I.ok.mod,I.bs,Nat.le_trans I.ok.bsz I.sz,I.stack,I.stkFree,I.hok,I.bare⟩
theorem Inv.after {Q:VK} {u:Value} (I:Inv X pins σ H s) (h:CE X.stack X.prog X.w H s Q u s'):EP X pins σ Q u s':=by
 obtain⟨v,H',os,bare,un,hok,r,q⟩:=h
 obtain⟨hh,g,d,t,os'⟩:=s'
 obtain rfl:os'=s.os:=os
 exact⟨v,H',I.call (h':=hh) (g':=g) (d':=d) (t':=t) (ch:=[]) un hok bare (fun b z=>absurd z (by simp)),r,q⟩
end
def tCall (sp:Sp) (dvs:List V) (E:XK) (t:TA):TE:=fun σ H Q=>t σ H fun vs H1=>sp (vs++dvs) H1 Q E
def tMeth (C:Addr) (m:Str) (sp:Sp) (dvs:List V) (E:XK) (ta:TE) (t:TA):TE:=fun σ H Q=>ta σ H fun x H1=>∃a dx fs,x=.ref a∧H1 a=some (.ins C dx fs)∧fs.lookup m=none∧
 t σ H1 fun vs H2=>sp (x :: (vs++dvs)) H2 Q E
def tMake (C:Addr) (sp:Sp) (dvs:List V) (E:XK) (t:TA):TE:=fun σ H Q=>t σ H fun vs H1=>∀x dx,H1 x=none->H1 dx=none->dx≠x->
 sp (.ref x :: (vs++dvs)) (upd (upd H1 dx (.own x)) x (.ins C dx [])) (fun v H2=>v=.non∧Q (.ref x) H2) E
def Binds (K:W.Frag) (fd:FuncData) (ps:List Str) (ds:List Value):Prop:=
 ∀(s:Shared) (us:List Value),K.In s.heap->(us++ds).length=ps.length->BindsTo s fd ⟨us,[]⟩ (ps.zip (us++ds))
theorem Binds.all {K:W.Frag} {fd:FuncData} {ps:List Str} (h:∀us:List Value,us.length=ps.length->bindArgs fd ⟨us,[]⟩=pure (ps.zip us)):Binds K fd ps []:=fun s us _ hl=>by
 rw [List.append_nil] at hl ⊢
 exact .of_eq (h us hl)
def Passes (CX:CXT) (X:Cx) (E:XK):Prop:=∀(pins:List (Addr×Obj)) (σ:St) (H:Hp) (s:Shared) (e:Value) (s':Shared),Inv X pins σ H s->CX X.stack H s E e s'->X.xe e s'
section
variable {X:Cx} {CX:CXT} {k:Nat} {f C:Addr} {fd:FuncData} {ps:List Str} {sp:Sp} {dvs:List V} {ds:List Value} {E:XK} {x m:Str} {p pos apos:Pos} {e o:Expr} {es:List Expr} {ta:TE} {t:TA}
theorem run_fn {pins:List (Addr×Obj)} {σ:St} {H:Hp} {s:Shared} {Q:VK} {us:List Value} {vs:List V} (F:FnOk X.prog X.w X.K X.mg X.base CX k f fd ps sp) (hr:Room k X.A) (hb:Binds X.K fd ps ds) (hd:Vals dvs ds) (hx:Passes CX X E)
  (I:Inv X pins σ H s) (r:Vals vs us) (h:sp (vs++dvs) H Q E):wpAny (model X.prog X.w) X.A (call (.ref f) us) (EP X pins σ Q) X.xe s:=by
 have r2:Vals (vs++dvs) (us++ds):=r.append hd
 have hl:(us++ds).length=ps.length:=by rw [← r2.length];exact F.len _ _ _ _ h
 refine wpAny_call (codeAny_mono (F.run X.A X.stack s H ⟨us,[]⟩ (us++ds) (vs++dvs) Q E hr I.env0 (hb s us I.kIn hl) r2 h) fun r s' hq=>?_)
 cases r with
 | error e=>exact hx pins σ H s e s' I hq
 | ok fl=>
  cases fl with
  | ret u=>exact I.after hq
  | next=>exact False.elim hq
  | brk=>exact False.elim hq
  | cont=>exact False.elim hq
theorem pe_call (F:FnOk X.prog X.w X.K X.mg X.base CX k f fd ps sp) (hr:Room k X.A) (hg:Gl X x) (hm:X.mg x=some (.ref f)) (hk:PySem.W.keepIn X.K (.ref f)=true) (hb:Binds X.K fd ps ds) (hd:Vals dvs ds) (hx:Passes CX X E)
  (ha:PA X (e :: es) t) (hdb:(x == ("__debug__" : Str))=false:=by decide) (he:starEach (e :: es) X.env=(false,eval e X.env) :: starEach es X.env:=by rfl) (hpl:(backTo pos (starEach es X.env)).any (·.1)=false:=by rfl):
  PE X (.Call (.Name x p) (e :: es) [] pos) (tCall sp dvs E t):=by
 intro pins s σ H Q I h
 refine wpAny_Call_Name_kw (ld_glob I hg hm ?_ hdb)
 refine PySem.W.callWith_K (h₀:=X.base) I.ok.mod.kin hk (thn (ha pos pins s σ H _ I h) fun us s1 ⟨vs,H1,I1,r,q⟩=>⟨I1.kIn,?_⟩) he hpl
 exact run_fn F hr hb hd hx I1 r q
theorem pe_meth {pl:Sem Bool} (he:PE X o ta) (c:Cls X.K C) (hm:Meth X.K C m f) (F:FnOk X.prog X.w X.K X.mg X.base CX k f fd ps sp) (hr:Room k X.A) (hb:Binds X.K fd ps ds) (hd:Vals dvs ds) (hx:Passes CX X E) (ha:PA X (e :: es) t)
  (hst:starEach (e :: es) X.env=(false,eval e X.env) :: starEach es X.env:=by rfl) (hpl:(backTo pos (starEach es X.env)).any (·.1)=false:=by rfl)
  (ht:eval (.Call (.Attribute o m apos) (e :: es) [] pos) X.env=(do
   let ov ← eval o X.env
   standAt apos.atName
   let (f,first) ← holding [ov] (getMethod ov m pl)
   callWith pos f first (backTo pos (starEach (e :: es) X.env)) (backToKw pos (keywordEach [] X.env))):=by rfl):
  PE X (.Call (.Attribute o m apos) (e :: es) [] pos) (tMeth C m sp dvs E ta t):=by
 intro pins s σ H Q I h
 refine PySem.W.methodCall_KW (pl:=pl) (thn (he pins s σ H _ I h) fun u s1 ⟨x,H1,I1,rx,a,dx,fs,ex,ea,l,q⟩=>?_) ht
 subst ex
 obtain rfl:u=Value.ref a:=rx
 refine getmeth_ok I1 ea c hm l ?_
 refine PySem.W.callWith_K (first:=[.ref a]) (h₀:=X.base) I.ok.mod.kin hm.kp (thn (ha pos pins s1 σ H1 _ I1 q) fun us s2 ⟨vs,H2,I2,r,q2⟩=>⟨I2.kIn,?_⟩) hst hpl
 exact run_fn (us:=.ref a :: us) (vs:=.ref a :: vs) F hr hb hd hx I2 (.cons rfl r) q2
structure Mk (K:W.Frag) (C f:Addr):Prop where
 makes:PySem.W.makesIn K C=true
 init:PySem.W.findIn K (.ref C) "__init__" = some (some (.ref f))
 fn:PySem.W.isFn K (.ref f)=true
 kp:PySem.W.keepIn K (.ref C)=true
theorem run_make {pins:List (Addr×Obj)} {σ:St} {H:Hp} {s:Shared} {Q:VK} {us:List Value} {vs:List V} (M:Mk X.K C f) (F:FnOk X.prog X.w X.K X.mg X.base CX k f fd ps sp) (hr:Room (k+1) X.A) (hb:Binds X.K fd ps ds) (hd:Vals dvs ds)
  (hx:Passes CX X E) (I:Inv X pins σ H s) (r:Vals vs us)
  (h:∀x dx,H x=none->H dx=none->dx≠x->sp (.ref x :: (vs++dvs)) (upd (upd H dx (.own x)) x (.ins C dx [])) (fun v H2=>v=.non∧Q (.ref x) H2) E):
  wpAny (model X.prog X.w) X.A (call (.ref C) us) (EP X pins σ Q) X.xe s:=by
 have hq:=h (s.heap.objs.size+1) s.heap.objs.size (I.hok.fresh (Nat.le_succ _)) (I.hok.fresh (Nat.le_refl _)) (Nat.ne_of_lt (Nat.lt_succ_self _))
 have I2:=Inv.made (C:=C) I
 have r2:Vals (V.ref (s.heap.objs.size+1) :: (vs++dvs)) (Value.ref (s.heap.objs.size+1) :: (us++ds)):=.cons rfl (r.append hd)
 have hl:(Value.ref (s.heap.objs.size+1) :: us++ds).length=ps.length:=by
  have e:=r2.length
  rw [F.len _ _ _ _ hq] at e
  exact e.symm
 refine wpAny_call (make_map (f:=f) I.kIn M.makes M.init (beq_iff_eq.mp M.fn) (codeAny_mono (F.run _ X.stack _ _ ⟨Value.ref (s.heap.objs.size+1) :: us,[]⟩ (Value.ref (s.heap.objs.size+1) :: (us++ds)) _ _ E (hr.make C us [])
  (I2.env0.make C us []) (hb _ (Value.ref (s.heap.objs.size+1) :: us) I2.kIn hl) r2 hq) fun r s' hq'=>?_))
 cases r with
 | error e=>exact hx pins σ _ _ e s' I2 hq'
 | ok fl=>
  cases fl with
  | ret u=>
   obtain⟨v,H',I3,rv,ev,q3⟩:=I2.after hq'
   subst ev
   exact⟨rv,⟨V.ref (s.heap.objs.size+1),H',I3,rfl,q3⟩⟩
  | next=>exact False.elim hq'
  | brk=>exact False.elim hq'
  | cont=>exact False.elim hq'
theorem pe_make (M:Mk X.K C f) (F:FnOk X.prog X.w X.K X.mg X.base CX k f fd ps sp) (hr:Room (k+1) X.A) (hg:Gl X x) (hm:X.mg x=some (.ref C)) (hb:Binds X.K fd ps ds) (hd:Vals dvs ds) (hx:Passes CX X E)
  (ha:PA X (e :: es) t) (hdb:(x == ("__debug__" : Str))=false:=by decide) (he:starEach (e :: es) X.env=(false,eval e X.env) :: starEach es X.env:=by rfl) (hpl:(backTo pos (starEach es X.env)).any (·.1)=false:=by rfl):
  PE X (.Call (.Name x p) (e :: es) [] pos) (tMake C sp dvs E t):=by
 intro pins s σ H Q I h
 refine wpAny_Call_Name_kw (ld_glob I hg hm ?_ hdb)
 refine PySem.W.callWith_K (h₀:=X.base) I.ok.mod.kin M.kp (thn (ha pos pins s σ H _ I h) fun us s1 ⟨vs,H1,I1,r,q⟩=>⟨I1.kIn,?_⟩) he hpl
 exact run_make M F hr hb hd hx I1 r q
end
def PK (X:Cx) (kws:List Keyword) (t:TA):Prop:=
 ∀(pos:Pos) (pins:List (Addr×Obj)) (s:Shared) (σ:St) (H:Hp) (Q:List V->Hp->Prop),Inv X pins σ H s->t σ H Q->wpAny (model X.prog X.w) X.A (evalAll ((backToKw pos (keywordEach kws X.env)).map (·.2))) (AP X pins σ Q) X.xe s
section
variable {X:Cx} {CX:CXT} {k:Nat} {f C:Addr} {fd:FuncData} {ps ks:List Str} {sp:Sp} {E:XK} {x m:Str} {p pos apos kpos:Pos} {e o:Expr} {es:List Expr} {kws:List Keyword} {te ta:TE} {t tk:TA} {nm:Option Str}
theorem pk_nil:PK X [] tNil:=fun _ _ _ _ H Q I h=>wpAny_evalAll_nil ⟨[],H,I,.nil,h⟩
theorem pk_cons (ha:PE X e te) (hr:PK X kws t):PK X (⟨nm,e,kpos⟩ :: kws) (tCons te t):=by
 intro pos pins s σ H Q I h
 show wpAny _ _ (evalAll ((do let v ← eval e X.env;standAt pos;pure v) :: (backToKw pos (keywordEach kws X.env)).map (·.2))) _ _ s
 refine wpAny_evalAll_cons (wpAny_bind (thn (ha pins s σ H _ I h) fun u s1 ⟨x,H1,I1,r1,q1⟩=>wpAny_bind (wpAny_standAt (wpAny_pure ?_))))
 exact thn (hr pos pins s1 σ H1 _ I1 q1) fun us s2 ⟨xs,H2,I2,r2,q2⟩=>⟨x :: xs,H2,I2,.cons r1 r2,q2⟩
variable {g:List Value->List Value->List Value} {gV:List V->List V->List V}
end
structure FnScope (N P:List Str) (sc:Scope):Prop where
 kind:sc.kind=.function
 co:sc.isCoroutine=false
 gen:sc.isGenerator=false
 nd:N.Nodup
 pre:N.take P.length=P
 par:∀x∈P,sc.names.lookup x=some .local∨sc.names.lookup x=some .cell
 nofree:∀y∈sc.names,y.2≠.free
theorem bindL_out {kindOf:Str->Option NameKind} {x:Str}:∀{binds:List (Str×Value)} {m:Str->Option Value},(∀v,(x,v)∉binds)->bindL kindOf binds m x=m x
 | [],_,_=>rfl
 |(n,v) :: r,m,h=>by
  unfold bindL
  rw [bindL_out fun w hw=>h w (List.mem_cons_of_mem _ hw)]
  split
  ·have:x≠n:=by rintro rfl;exact h v List.mem_cons_self
   simp [this]
  ·rfl
theorem bindC_out {kindOf:Str->Option NameKind} {x:Str}:∀{binds:List (Str×Value)} {m:Str->Option Value},(∀v,(x,v)∉binds)->bindC kindOf binds m x=m x
 | [],_,_=>rfl
 |(n,v) :: r,m,h=>by
  unfold bindC
  rw [bindC_out fun w hw=>h w (List.mem_cons_of_mem _ hw)]
  split
  ·rfl
  ·have:x≠n:=by rintro rfl;exact h v List.mem_cons_self
   simp [this]
theorem bindL_get {kindOf:Str->Option NameKind} {x:Str} {v:Value}:∀{P:List Str} {vs:List Value} {i:Nat} {m:Str->Option Value},P.Nodup->P[i]?=some x->vs[i]?=some v->kindOf x=some .local->
  bindL kindOf (P.zip vs) m x=some v
 | [],_,_,_,_,h,_,_=>by simp at h
 | _ :: _,[],_,_,_,_,h,_=>by simp at h
 | p :: P,w :: vs,0,m,nd,h1,h2,hk=>by
  simp at h1 h2;subst h1;subst h2
  show bindL kindOf ((p,w) :: P.zip vs) m p=_
  unfold bindL
  rw [bindL_out fun v hv=>(List.nodup_cons.mp nd).1 (List.of_mem_zip hv).1,if_pos hk]
  simp
 | p :: P,w :: vs,i+1,m,nd,h1,h2,hk=>by
  show bindL kindOf ((p,w) :: P.zip vs) m x=_
  unfold bindL
  exact bindL_get (i:=i) (List.nodup_cons.mp nd).2 (by simpa using h1) (by simpa using h2) hk
theorem bindC_get {kindOf:Str->Option NameKind} {x:Str} {v:Value}:∀{P:List Str} {vs:List Value} {i:Nat} {m:Str->Option Value},P.Nodup->P[i]?=some x->vs[i]?=some v->kindOf x≠some .local->
  bindC kindOf (P.zip vs) m x=some v
 | [],_,_,_,_,h,_,_=>by simp at h
 | _ :: _,[],_,_,_,_,h,_=>by simp at h
 | p :: P,w :: vs,0,m,nd,h1,h2,hk=>by
  simp at h1 h2;subst h1;subst h2
  show bindC kindOf ((p,w) :: P.zip vs) m p=_
  unfold bindC
  rw [bindC_out fun v hv=>(List.nodup_cons.mp nd).1 (List.of_mem_zip hv).1,if_neg hk]
  simp
 | p :: P,w :: vs,i+1,m,nd,h1,h2,hk=>by
  show bindC kindOf ((p,w) :: P.zip vs) m x=_
  unfold bindC
  exact bindC_get (i:=i) (List.nodup_cons.mp nd).2 (by simpa using h1) (by simpa using h2) hk
def start (N:List Str) (vs:List V):St:=vs.map some++List.replicate (N.length - vs.length) none
noncomputable def cxOf (CX:CXT) (P:Program) (w:World) (K:W.Frag) (mg:Str->Option Value) (base:Heap) (N:List Str) (qual:Str) (scope:Scope) (f:Addr) (cd:Value) (A:Around) (outer:List Env) (s:Shared) (H:Hp) (E:XK):Cx where
 prog:=P
 w:=w
 K:=K
 mg:=mg
 base:=base
 A:=A.deeper (envOfC qual scope s.heap.objs.size f cd)
 N:=N
 s₀:=s
 H₀:=H
 env:=envOfC qual scope s.heap.objs.size f cd
 outer:=outer
 stack:=envOfC qual scope s.heap.objs.size f cd :: outer
 ex:=[]
 calm:=true
 fn:=fun _=>true
 pn:=[]
 xe:=fun e s'=>wpAny (model P w) (A.deeper (envOfC qual scope s.heap.objs.size f cd)) (leaving (envOfC qual scope s.heap.objs.size f cd) e) (fun _ s''=>CX outer H s E e s'') (fun e' s''=>CX outer H s E e' s'') s'
theorem cell_has {sc:Scope} {n:Nat} {x:Str} (h:sc.names.lookup x=some .cell):∃c,(cellsFrom n sc.names []).lookup x=some c:=by
 have q:=PySem.W.cellsFrom_some sc.names n [] (.inl h)
 exact Option.isSome_iff_exists.mp q
theorem inv_start {CX:CXT} {P:Program} {w:World} {K:W.Frag} {mg:Str->Option Value} {base:Heap} {N ps:List Str} {qual:Str} {scope:Scope} {f:Addr} {cd:Value} {A:Around} {outer:List Env} {s s1:Shared} {H:Hp} {E:XK} {us:List Value} {vs:List V}
  (S:FnScope N ps scope) (hd:A.handled=none) (e0:Env0 P w K mg base A outer s H) (hl:vs.length=ps.length) (r:Vals vs us)
  (x:InCallC s s.heap.objs.size (bindL (envOfC qual scope s.heap.objs.size f cd).kindOf (ps.zip us) fun _=>none) (cellsFrom (s.heap.objs.size+1) scope.names []) (bindC (envOfC qual scope s.heap.objs.size f cd).kindOf (ps.zip us) fun _=>none) s1):
  Inv (cxOf CX P w K mg base N qual scope f cd A outer s H E) [] (start N vs) H s1:=by
 have hpl:ps.length<=N.length:=by have:=congrArg List.length S.pre;rw [List.length_take] at this;omega
 obtain⟨h1,tk,rfl,hk⟩:=x.done
 have noA:∀b:Addr,b∉(cxOf CX P w K mg base N qual scope f cd A outer s H E).ex:=fun b z=>absurd (show b∈([]:List Addr) from z) (by simp)
 refine⟨⟨e0.mod,S.kind,rfl,rfl,Nat.le_refl _,fun y z c h1 h2=>?_,fun y hy=>?_,fun y c _ h=>?_,fun _=>hd,Around.frames_deeper e0.frames,.inr ⟨rfl,rfl⟩,fun b z=>absurd z (noA b),e0.bs,e0.bsz,fun b _ _=>noA b,fun b z=>absurd z (noA b),e0.funs,e0.frf⟩,
  rfl,e0.bare,Un.kept hk,⟨_,x.toInCall.ns,fun i y v h1 h2 h3=>?_⟩,fun y c h=>⟨_,x.cell y c h⟩,e0.hok.fresh (Nat.le_refl _),fun y c h=>?_,fun p hp=>absurd (show p∈([]:List (Addr×Obj)) from hp) (by simp),e0.hok.kept hk,?_⟩
 ·exact name_of_addr x.apart (PySem.mem_of_lookup h1) (PySem.mem_of_lookup h2)
 ·have hy:scope.names.lookup y=some .cell∨scope.names.lookup y=some .free:=hy
  rcases hy with hy | hy
  ·exact cell_has hy
  ·exact absurd rfl (S.nofree _ (PySem.mem_of_lookup hy))
 ·exact Nat.le_of_lt (x.above y c (PySem.mem_of_lookup h))
 ·have hi:i < vs.length:=by
   unfold start at h2
   by_cases hi:i < vs.length
   ·exact hi
   ·rw [List.getElem?_append_right (by simpa using hi)] at h2
    rw [List.getElem?_replicate] at h2
    split at h2 <;> cases h2
  have ha:vs[i]?=some v:=by
   unfold start at h2
   rw [List.getElem?_append_left (by simpa using hi),List.getElem?_map] at h2
   cases e:vs[i]? with
   | none=>rw [e] at h2;cases h2
   | some a=>rw [e] at h2;cases h2;rfl
  obtain⟨u,hu,rv⟩:=r.get ha
  have hp:ps[i]?=some y:=by
   rw [← S.pre,List.getElem?_take_of_lt (by omega)];exact h1
  have ndP:ps.Nodup:=by rw [← S.pre];exact S.nd.sublist (List.take_sublist _ _)
  refine⟨u,rv,?_⟩
  rcases S.par y (List.mem_of_getElem? hp) with k | k
  ·exact .inl ⟨k,bindL_get ndP hp hu k⟩
  ·obtain⟨c,e⟩:=cell_has (n:=s.heap.objs.size+1) k
   refine .inr ⟨.inl k,c,e,?_⟩
   have q:=x.cell y c e
   rw [bindC_get ndP hp hu (by show scope.names.lookup y≠_;rw [k];decide)] at q
   exact q
 ·exact e0.hok.fresh (Nat.le_of_lt (x.above y c (PySem.mem_of_lookup h)))
 ·unfold start
  show _=N.length
  rw [List.length_append,List.length_map,List.length_replicate]
  omega
theorem fn_of {CX:CXT} {P:Program} {w:World} {K:W.Frag} {mg:Str->Option Value} {base:Heap} {k:Nat} {f:Addr} {name qual:Str} {params:Arguments} {body:List Stmt} {scope:Scope} {dV kV doc pm cdv ct oc:Value} {an od:Option Addr}
  {osl:Array (Option Value)} {N ps:List Str} {sp:Sp} (lk:K.lookup f=some ⟨oc,od,.func (PySem.W.fnOf name qual params body scope dV kV doc pm an cdv ct),osl⟩) (hcd:PySem.W.codeIn K cdv qual=true) (S:FnScope N ps scope)
  (len:∀vs H Q E,sp vs H Q E->vs.length=ps.length)
  (hbody:∀(A:Around) (outer:List Env) (s:Shared) (H:Hp) (vs:List V) (Q:VK) (E:XK),Room k (A.deeper (envOfC qual scope s.heap.objs.size f cdv))->sp vs H Q E->
   ∃t,PSs (cxOf CX P w K mg base N qual scope f cdv A outer s H E) body t∧t { nx:=fun _ H'=>Q .non H',rt:=Q } (start N vs) H):
  FnOk P w K mg base CX (k+1) f (PySem.W.fnOf name qual params body scope dV kV doc pm an cdv ct) ps sp:=by
 refine⟨len,fun A outer s H args us vs Q E hr e0 hb r hsp=>?_⟩
 have hl:=len _ _ _ _ hsp
 have KX:K.In s.heap:=e0.mod.kin.keeps fun b o e=>(e0.bs b o e).1
 have lim:s.heap.NoLimit:=e0.mod.nolimit.keeps fun b o e=>(e0.bs b o e).1
 have hkind:∀y∈ps.zip us,scope.names.lookup y.1=some .local∨(scope.names.lookup y.1=some .cell∧((cellsFrom (s.heap.objs.size+1) scope.names []).lookup y.1).isSome=true):=fun ⟨n,v⟩ hy=>by
  rcases S.par n (List.of_mem_zip hy).1 with q | q
  ·exact .inl q
  ·exact .inr ⟨q,PySem.W.cellsFrom_some _ _ _ (.inl q)⟩
 refine codeAny_call_function hr.depth (KX _ _ lk) rfl S.co S.gen rfl (PySem.W.codeRec_of KX hcd) (hb _ _ _ _ ?_)
 refine wpAny_newFunctionEnv_cells S.kind hkind fun env he s1 x=>?_
 subst he
 refine⟨lim.keeps x.toInCall.keep,codeAny_func ?_⟩
 obtain⟨t,ht,hq⟩:=hbody A outer s H vs Q E (hr.deeper _) hsp
 have I:Inv (cxOf CX P w K mg base N qual scope f cdv A outer s H E) [] (start N vs) H s1:=inv_start S hr.hd e0 hl r x
 refine wpAny_mono (ht [] s1 (start N vs) H _ I hq) (fun fl s' hs=>?_) fun e s' hs=>hs
 have fin:∀{σ':St} {H':Hp} {v:V} {u:Value},Inv (cxOf CX P w K mg base N qual scope f cdv A outer s H E) [] σ' H' s'->RelV v u->Q v H'->CE outer P w H s Q u s':=
  fun {σ' H' v u} J rv q=>⟨v,H',J.os,J.bare,J.base,J.hok,rv,q⟩
 cases fl with
 | ret u=>
  obtain⟨v,σ',H',J,rv,q⟩:=hs
  exact fin J rv q
 | next=>
  obtain⟨σ',H',J,q⟩:=hs
  exact fin (v:=V.non) (u:=Value.none) J rfl q
 | brk=>
  obtain⟨_,_,_,q⟩:=hs
  exact False.elim q
 | cont=>
  obtain⟨_,_,_,q⟩:=hs
  exact False.elim q
section
variable {X:Cx} {x:Str} {p pos:Pos} {e:Expr} {es:List Expr} {t:TA} {id T:String} {r:List V->Hp->VK->Prop}
def tCB (r:List V->Hp->VK->Prop) (t:TA):TE:=fun σ H Q=>t σ H fun vs H1=>r vs H1 Q
theorem pe_callB (hc:CallR X (.builtin id) r) (hg:Gl X x) (hm:X.mg x=none) (hv:bootBuiltins x=some (.builtin id)) (ha:PA X (e :: es) t) (hn:x ≠ "__name__" := by decide) (hdb:(x == ("__debug__" : Str))=false:=by decide)
  (he:starEach (e :: es) X.env=(false,eval e X.env) :: starEach es X.env:=by rfl) (hpl:(backTo pos (starEach es X.env)).any (·.1)=false:=by rfl):PE X (.Call (.Name x p) (e :: es) [] pos) (tCB r t):=by
 intro pins s σ H Q I h
 refine wpAny_Call_Name_kw (ld_blt I hg hm hv ?_ hn hdb)
 exact PyProof.Rows.callWith_builtin1 (thn (ha pos pins s σ H _ I h) fun us s1 ⟨vs,H1,I1,r1,q1⟩=>hc pins s1 σ H1 vs us Q I1 r1 q1) he hpl
theorem pe_callTy (hc:CallR X (.type T) r) (hg:Gl X x) (hm:X.mg x=none) (hv:bootBuiltins x=some (.type T)) (ha:PA X (e :: es) t) (hn:x ≠ "__name__" := by decide) (hdb:(x == ("__debug__" : Str))=false:=by decide)
  (he:starEach (e :: es) X.env=(false,eval e X.env) :: starEach es X.env:=by rfl) (hpl:(backTo pos (starEach es X.env)).any (·.1)=false:=by rfl):PE X (.Call (.Name x p) (e :: es) [] pos) (tCB r t):=by
 intro pins s σ H Q I h
 refine wpAny_Call_Name_kw (ld_blt I hg hm hv ?_ hn hdb)
 exact PyProof.Rows.callWith_type1 (thn (ha pos pins s σ H _ I h) fun us s1 ⟨vs,H1,I1,r1,q1⟩=>hc pins s1 σ H1 vs us Q I1 r1 q1) he hpl
end
end L2
namespace HT
open PySem PyProof.Rows
section
open PySem.SeqAt
open PySem.AutoSeq1 (wpAny_loadPart')
open PySem.MeetsSeq PySem.MeetsSeq2 PySem.MeetsSeq3
end
section
variable {prog:Program} {w:World} {A:Around} {E:Value->Shared->Prop} {s:Shared}
def sIx (n d:Nat):Option Int->Nat
 | none=>d
 | some v=>if v < 0 then (v+(n:Int)).toNat else min v.toNat n
theorem sIx_none (n d:Nat):sIx n d none=d:=rfl
theorem sIx_nat (n d k:Nat):sIx n d (some (k:Int))=min k n:=by
 show (if (k:Int) < 0 then ((k:Int)+(n:Int)).toNat else min (k:Int).toNat n)=min k n
 rw [if_neg (by omega),Int.toNat_natCast]
end
end HT
namespace L2
open PySem PySem.Spec PyProof.Rows
abbrev TO:=St->Hp->(Option Int->Hp->Prop)->Prop
def PO (X:Cx) (e:Option Expr) (t:TO):Prop:=
 ∀(pins:List (Addr×Obj)) (s:Shared) (σ:St) (H:Hp) (Q:Option Int->Hp->Prop),Inv X pins σ H s->t σ H Q->
  wpAny (model X.prog X.w) X.A (evalPart e X.env) (fun u s'=>∃o H',Inv X pins σ H' s'∧IsPart u o∧Q o H') X.xe s
def tNoPart:TO:=fun _ H Q=>Q none H
def tPart (t:TE):TO:=fun σ H Q=>t σ H fun x H1=>∃i,x=.int i∧Q (some i) H1
section
variable {X:Cx} {e:Expr} {te:TE} {lo hi:Option Expr} {tl th:TO} {pos p2:Pos}
theorem po_none:PO X none tNoPart:=by
 intro pins s σ H Q I h
 rw [evalPart_none]
 exact wpAny_pure ⟨none,H,I,.none,h⟩
theorem po_some (h:PE X e te):PO X (some e) (tPart te):=by
 intro pins s σ H Q I hw
 rw [evalPart_some]
 refine thn (h pins s σ H _ I hw) fun u s1 ⟨x,H1,I1,r1,q1⟩=>?_
 obtain⟨i,rfl,q⟩:=q1
 obtain⟨t,rfl⟩:=r1
 exact⟨some i,H1,I1,.int i t,q⟩
def SlR (X:Cx) (r:V->Option Int->Option Int->Hp->VK->Prop):Prop:=
 ∀(pins:List (Addr×Obj)) (s:Shared) (σ:St) (H:Hp) (x:V) (v vl vu:Value) (lo hi:Option Int) (sl:Addr) (Q:VK),Inv X pins σ H s->RelV x v->s.heap.IsSliceOf sl vl vu .none->IsPart vl lo->IsPart vu hi->r x lo hi H Q->
  ∃T id,typeLookup (.type T) "__getitem__" = pure (some (.builtin id))∧s.TypeIs v T∧wpAny (model X.prog X.w) X.A (getItem v (.ref sl)) (EP X pins σ Q) X.xe s
def tSl (r:V->Option Int->Option Int->Hp->VK->Prop) (te:TE) (tl th:TO):TE:=fun σ H Q=>te σ H fun x H1=>tl σ H1 fun l H2=>th σ H2 fun u H3=>r x l u H3 Q
theorem pe_slice {r:V->Option Int->Option Int->Hp->VK->Prop} (hr:SlR X r) (he:PE X e te) (hl:PO X lo tl) (hu:PO X hi th):PE X (.Subscript e (.Slice lo hi none p2) pos) (tSl r te tl th):=by
 intro pins s σ H Q I h
 refine Subscript_ (thn (he pins s σ H _ I h) fun v s1 ⟨x,H1,I1,r1,q1⟩=>?_)
 refine wpAny_Slice (thn (hl pins s1 σ H1 _ I1 q1) fun vl s2 ⟨l,H2,I2,pl,q2⟩=>thn (hu pins s2 σ H2 _ I2 q2) fun vu s3 ⟨u,H3,I3,pu,q3⟩=>?_)
 rw [evalPart_none]
 refine wpAny_pure ?_
 have I4:Inv X pins σ H3 { s3 with heap:=s3.heap.push { cls:=.type "slice",data:=.fields #[vl,vu,.none] } }:=I3.kept (t':=s3.toks) fun b ob q=>Heap.get?_push_of_some _ q
 obtain⟨T,id,hT,ht,hg⟩:=hr pins { s3 with heap:=s3.heap.push { cls:=.type "slice",data:=.fields #[vl,vu,.none] } } σ H3 x v vl vu l u s3.heap.objs.size Q I4 r1 (Heap.IsSliceOf.new ..) pl pu q3
 show wpAny (model X.prog X.w) X.A (subscriptTail e (.Slice lo hi none p2) v (.ref s3.heap.objs.size)) (EP X pins σ Q) X.xe { s3 with heap:=s3.heap.push { cls:=.type "slice",data:=.fields #[vl,vu,.none] } }
 exact tail_any (ops:=[.ref s3.heap.objs.size,v]) ht hT hg (by with_unfolding_all rfl)
def cutV (xs:List V) (lo hi:Option Int):List V:=(xs.drop (HT.sIx xs.length 0 lo)).take (HT.sIx xs.length xs.length hi - HT.sIx xs.length 0 lo)
theorem cutV_length (xs:List V) (lo hi:Option Int):(cutV xs lo hi).length<=xs.length:=by
 unfold cutV
 rw [List.length_take,List.length_drop]
 omega
end
def ixN (n:Nat) (i:Int):Option Nat:=if 0<=i then (if i < n then some i.toNat else none) else if -(n:Int)<=i then some (i+n).toNat else none
def atI {α:Type} (xs:List α) (i:Int):Option α:=(ixN xs.length i).bind fun j=>xs[j]?
theorem ixN_seq {n:Nat} {i:Int} {j:Nat} (h:ixN n i=some j):seqIndex? i n=some j∧j < n∧-(n:Int)<=i∧i < n:=by
 unfold ixN at h
 by_cases h0:0<=i
 ·rw [if_pos h0] at h
  by_cases h1:i < n
  ·rw [if_pos h1] at h
   have e:i.toNat=j:=Option.some.inj h
   exact⟨by rw [seqIndex_of h0 h1,e],by omega,by omega,h1⟩
  ·rw [if_neg h1] at h;cases h
 ·rw [if_neg h0] at h
  by_cases h1:-(n:Int)<=i
  ·rw [if_pos h1] at h
   have e:(i+n).toNat=j:=Option.some.inj h
   exact⟨by rw [seqIndex_neg (by omega) h1,e],by omega,h1,by omega⟩
  ·rw [if_neg h1] at h;cases h
theorem atI_get {α:Type} {xs:List α} {i:Int} {v:α} (h:atI xs i=some v):∃j,seqIndex? i xs.length=some j∧xs[j]?=some v∧j < xs.length∧-(xs.length:Int)<=i∧i < xs.length:=by
 unfold atI at h
 cases e:ixN xs.length i with
 | none=>rw [e] at h;cases h
 | some j=>
  rw [e] at h
  obtain⟨h1,h2,h3,h4⟩:=ixN_seq e
  exact⟨j,h1,h,h2,h3,h4⟩
theorem atI_nat {α:Type} {xs:List α} {j:Nat} {v:α} (h:xs[j]?=some v):atI xs (j:Int)=some v:=by
 have hj:j < xs.length:=(List.getElem?_eq_some_iff.mp h).1
 have e:ixN xs.length (j:Int)=some j:=by
  unfold ixN
  rw [if_pos (by omega),if_pos (by omega)];simp
 unfold atI;rw [e];exact h
def PlainIx (b:Expr):Prop:=∀o i,subscripted b false o i=operate [o,i] (getItem o i)
def IxR (X:Cx) (r:R2):Prop:=
 ∀(value slice:Expr) (pins:List (Addr×Obj)) (s:Shared) (σ:St) (H:Hp) (x y:V) (v u:Value) (Q:VK),Inv X pins σ H s->RelV x v->RelV y u->r x y H Q->
  subscripted slice false v u=operate [v,u] (getItem v u)->wpAny (model X.prog X.w) X.A (subscriptTail value slice v u) (EP X pins σ Q) X.xe s
def MtR (X:Cx) (id:String) (r:V->List V->Hp->VK->Prop):Prop:=
 ∀(pins:List (Addr×Obj)) (s:Shared) (σ:St) (H:Hp) (x:V) (xs:List V) (v:Value) (us:List Value) (Q:VK),Inv X pins σ H s->RelV x v->Vals xs us->r x xs H Q->
  wpAny (model X.prog X.w) X.A (call (.builtin id) (v :: us)) (EP X pins σ Q) X.xe s
section
variable {X:Cx} {a b:Expr} {ta tb:TE} {pos:Pos}
theorem pe_ix {r:R2} (hr:IxR X r) (ha:PE X a ta) (hb:PE X b tb) (hs:PlainIx b):PE X (.Subscript a b pos) (tOp r ta tb):=by
 intro pins s σ H Q I h
 exact Subscript_ (binT ha hb I h fun v u s2 x y H2 I2 rx ry q=>hr a b pins s2 σ H2 x y v u Q I2 rx ry q (hs _ _))
def rIxL (K:W.Frag):R2:=fun x y H Q=>∃p xs i v,x=.ref p∧y=.int i∧SqL K H p xs∧atI xs i=some v∧Q v H
def rIxT (K:W.Frag):R2:=fun x y H Q=>∃p xs i v,x=.ref p∧y=.int i∧SqT K H p xs∧atI xs i=some v∧Q v H
theorem ix_list:IxR X (rIxL X.K):=by
 intro value slice pins s σ H x y v u Q I rx ry h hs
 obtain⟨p,xs,i,z,rfl,rfl,hq,he,q⟩:=h
 cases rx
 obtain⟨t,rfl⟩:=ry
 obtain⟨its,r,pl,hz⟩:=I.list hq
 obtain⟨j,h1,h2,h3,h4,h5⟩:=atI_get he
 obtain⟨w,ew,rw'⟩:=r.get h2
 have hl:=r.length
 have hn:=line63
 have fin:EP X pins σ Q w s:=⟨z,H,I,rw',q⟩
 by_cases h0:0<=i
 ·have hj:i.toNat=j:=by
   rw [seqIndex_of h0 h5] at h1
   exact Option.some.inj h1
  exact item_listR pl.isList h0 (by omega) (by rw [hj];simpa using ew) fin hs
 ·have hj:(i+(its.toArray.size:Int)).toNat=j:=by
   rw [seqIndex_neg (by omega) h4] at h1
   rw [List.size_toArray,← hl]
   exact Option.some.inj h1
  exact subscriptTail_builtinR (x:=w) pl.isList.typeIs slot_list_getitem.lookup
   (wpAny_getItem_list_neg (Q:=fun r s'=>r=w∧EP X pins σ Q r s') pl.isList (by omega) (by rw [List.size_toArray] <;> omega) (by omega) (by rw [hj];simpa using ew) ⟨rfl,fin⟩) hs
theorem ix_tup:IxR X (rIxT X.K):=by
 intro value slice pins s σ H x y v u Q I rx ry h hs
 obtain⟨p,xs,i,z,rfl,rfl,hq,he,q⟩:=h
 cases rx
 obtain⟨t,rfl⟩:=ry
 obtain⟨its,r,pl,hz⟩:=I.tuple hq
 obtain⟨j,h1,h2,h3,h4,h5⟩:=atI_get he
 obtain⟨w,ew,rw'⟩:=r.get h2
 have hl:=r.length
 have hn:=line63
 have fin:EP X pins σ Q w s:=⟨z,H,I,rw',q⟩
 exact subscriptTail_builtinR (x:=w) pl.typeIs slot_tuple_getitem.lookup
  (getItem_tuple (j:=j) (Q:=fun r s'=>r=w∧EP X pins σ Q r s') pl (by omega) (by omega) (by rw [List.size_toArray,← hl];exact h1) (by simpa using ew) ⟨rfl,fin⟩) hs
theorem mapSeq_set (its:List Value) (n j:Nat) (u:Value):Obj.mapSeq (·.setIfInBounds j u) { cls:=.type "list",data:=.seq its.toArray n }={ cls:=.type "list",data:=.seq (its.set j u).toArray n }:=by
 simp [Obj.mapSeq]
theorem Inv.lst {pins:List (Addr×Obj)} {σ:St} {H:Hp} {s:Shared} {p:Addr} {xs:List V} (I:Inv X pins σ H s) (h:H p=some (.lst xs)):
  ∃(its:List Value) (n:Nat),Vals xs its∧s.heap.get? p=some { cls:=.type "list",data:=.seq its.toArray n }∧xs.length<=sizeLine:=by
 obtain⟨z,its,n,r,e⟩:=I.hok p _ h
 exact⟨its,n,r,e,z⟩
theorem Inv.lstUpd {pins:List (Addr×Obj)} {σ:St} {H:Hp} {s:Shared} {p:Addr} {xs ys:List V} {its its':List Value} {n n':Nat} {f:Obj->Obj} (I:Inv X pins σ H s) (h:H p=some (.lst xs))
  (ho:s.heap.get? p=some { cls:=.type "list",data:=.seq its.toArray n }) (hf:f { cls:=.type "list",data:=.seq its.toArray n }={ cls:=.type "list",data:=.seq its'.toArray n' }) (r:Vals ys its') (hz:ys.length<=sizeLine) (t:Nat):
  Inv X pins σ (upd H p (.lst ys)) { s with heap:=s.heap.update p f,toks:=t }:=by
 have e:(s.heap.update p f).get? p=some { cls:=.type "list",data:=.seq its'.toArray n' }:=by
  rw [Heap.get?_update_self f ho (by rw [hf] <;> rfl),hf]
 refine I.write (x:=p) (e:=p) (by rw [h];trivial) (.inl rfl) (fun b u hb q=>(Heap.get?_update_other _ _ (Ne.symm hb)).trans q) ⟨_,e⟩ ?_
 exact⟨hz,its',n',r,e⟩
def rSetL:V->V->V->Hp->(Hp->Prop)->Prop:=fun o i v H Q=>∃p xs k j,o=.ref p∧i=.int k∧H p=some (.lst xs)∧ixN xs.length k=some j∧Q (upd H p (.lst (xs.set j v)))
theorem set_list:PSet X rSetL:=by
 intro pins s σ H o i v ov iv u Q I ro ri rv h
 obtain⟨p,xs,k,j,rfl,rfl,hp,hj,q⟩:=h
 cases ro
 obtain⟨t,rfl⟩:=ri
 obtain⟨its,n,r,ho,hz⟩:=I.lst hp
 obtain⟨h1,h2,h3,h4⟩:=ixN_seq hj
 have hl:=r.length
 have hn:=line63
 have I':Inv X pins σ (upd H p (.lst (xs.set j v))) { s with heap:=s.heap.update p (Obj.mapSeq (·.setIfInBounds j u)) }:=
  I.lstUpd hp ho (mapSeq_set its n j u) (r.set rv j) (by rw [List.length_set];exact hz) s.toks
 by_cases h0:0<=k
 ·have hk:k.toNat=j:=by
   rw [seqIndex_of h0 h4] at h1
   exact Option.some.inj h1
  exact PySem.W.ki_setAt ho h0 (by omega) (by rw [List.size_toArray,← hl];exact h4) (by rw [hk];exact⟨_,I',q⟩)
 ·have hk:(k+(its.toArray.size:Int)).toNat=j:=by
   rw [seqIndex_neg (by omega) h3] at h1
   rw [List.size_toArray,← hl]
   exact Option.some.inj h1
  exact PySem.W.ki_setBack ho (by omega) (by rw [List.size_toArray,← hl];exact h3) (by omega) (by rw [hk];exact⟨_,I',q⟩)
theorem slice_bounds (lo hi:Option Int) (n:Nat):(sliceBounds lo hi none n).1=((HT.sIx n 0 lo:Nat):Int)∧(sliceBounds lo hi none n).2.1=((HT.sIx n n hi:Nat):Int)∧(sliceBounds lo hi none n).2.2=1:=by
 refine⟨?_,?_,rfl⟩
 ·cases lo with
  | none=>simp [sliceBounds,HT.sIx]
  | some i=>
   simp only [sliceBounds,HT.sIx,Option.getD_none,show (1:Int) > 0 by decide,if_true]
   by_cases h:i < 0
   ·simp only [h,if_true] <;> omega
   ·simp only [h,if_false] <;> omega
 ·cases hi with
  | none=>simp [sliceBounds,HT.sIx]
  | some i=>
   simp only [sliceBounds,HT.sIx,Option.getD_none,show (1:Int) > 0 by decide,if_true]
   by_cases h:i < 0
   ·simp only [h,if_true] <;> omega
   ·simp only [h,if_false] <;> omega
theorem slicePick_cut (its:List Value) (lo hi:Option Int):slicePick its.toArray lo hi none=((its.drop (HT.sIx its.length 0 lo)).take (HT.sIx its.length its.length hi - HT.sIx its.length 0 lo)).toArray:=by
 obtain⟨h1,h2,h3⟩:=slice_bounds lo hi its.toArray.size
 unfold slicePick
 rw [h1,h2,h3]
 simp only [sliceRange_one,pick_run,List.size_toArray] <;> rfl
def rSlL (K:W.Frag):V->Option Int->Option Int->Hp->VK->Prop:=fun x lo hi H Q=>∃a xs,x=.ref a∧SqL K H a xs∧∀p,H p=none->Q (.ref p) (upd H p (.lst (cutV xs lo hi)))
theorem sl_list:SlR X (rSlL X.K):=by
 intro pins s σ H x v vl vu lo hi sl Q I rx hs pl pu h
 obtain⟨a,xs,rfl,hx,q⟩:=h
 cases rx
 obtain⟨its,r,ht,hz⟩:=I.list hx
 have hlen:=r.length
 refine⟨"list",_,slot_list_getitem.lookup,ht.isList.typeIs,?_⟩
 refine wpAny_getItem_list_slice ht.isList hs pl pu .none (by simp) ?_ (by rw [List.size_toArray] <;> omega)
 rw [slicePick_cut,← hlen]
 refine⟨.ref s.heap.objs.size,_,I.laid (t':=s.toks) (o:=.lst (cutV xs lo hi)) (fun b ob q=>Heap.get?_push_of_some _ q) (Nat.le_refl _) ?_,rfl,q _ (I.hok.fresh (Nat.le_refl _))⟩
 exact⟨Nat.le_trans (cutV_length xs lo hi) hz,_,0,(r.drop (HT.sIx xs.length 0 lo)).take (HT.sIx xs.length xs.length hi - HT.sIx xs.length 0 lo),Heap.get?_push_size _ rfl⟩
def flatV:V->Bool
 | .non=>true
 | .bl _=>true
 | .int _=>true
 | .str _=>true
 | _=>false
def eqV:V->V->Bool
 | .non,.non=>true
 | .bl a,.bl b=>a == b
 | .bl a,.int b=>(if a then 1 else 0) == b
 | .int a,.bl b=>a == (if b then 1 else 0)
 | .int a,.int b=>a == b
 | .str a,.str b=>a == b
 | _,_=>false
theorem eqAt_V {A:Around} {s:Shared} {y x:V} {u v:Value} (ry:RelV y u) (rx:RelV x v) (fy:flatV y=true) (fx:flatV x=true):SeqAt.EqAt A s u v (eqV y x):=by
 cases y with
 | non=>
  cases ry
  cases x with
  | non=>cases rx;exact SeqAt.EqAt.same _
  | bl b=>cases rx;exact SeqAt.EqAt.none_bool b
  | int b=>obtain⟨t,rfl⟩:=rx;exact SeqAt.EqAt.none_int b t
  | str b=>obtain⟨t,rfl⟩:=rx;exact SeqAt.EqAt.none_str b t
  | _=>exact absurd (show false=true from fx) Bool.false_ne_true
 | bl a=>
  cases ry
  cases x with
  | non=>cases rx;exact SeqAt.EqAt.bool_none a
  | bl b=>cases rx;exact SeqAt.EqAt.bool_bool a b
  | int b=>obtain⟨t,rfl⟩:=rx;exact SeqAt.EqAt.bool_int a b t
  | str b=>obtain⟨t,rfl⟩:=rx;exact SeqAt.EqAt.bool_str a b t
  | _=>exact absurd (show false=true from fx) Bool.false_ne_true
 | int a=>
  obtain⟨t',rfl⟩:=ry
  cases x with
  | non=>cases rx;exact SeqAt.EqAt.int_none a t'
  | bl b=>cases rx;exact SeqAt.EqAt.int_bool a t' b
  | int b=>obtain⟨t,rfl⟩:=rx;exact SeqAt.EqAt.int_int a t' b t
  | str b=>obtain⟨t,rfl⟩:=rx;exact SeqAt.EqAt.int_str a t' b t
  | _=>exact absurd (show false=true from fx) Bool.false_ne_true
 | str a=>
  obtain⟨t',rfl⟩:=ry
  cases x with
  | non=>cases rx;exact SeqAt.EqAt.str_none a t'
  | bl b=>cases rx;exact SeqAt.EqAt.str_bool a t' b
  | int b=>obtain⟨t,rfl⟩:=rx;exact SeqAt.EqAt.str_int a t' b t
  | str b=>obtain⟨t,rfl⟩:=rx;exact SeqAt.EqAt.str_str a t' b t
  | _=>exact absurd (show false=true from fx) Bool.false_ne_true
 | _=>exact absurd (show false=true from fy) Bool.false_ne_true
def eqU (x:V) (u:Value):Bool:=match u with
 | .none=>eqV .non x
 | .bool b=>eqV (.bl b) x
 | .int i _=>eqV (.int i) x
 | .str z _=>eqV (.str z) x
 | _=>false
theorem eqU_of {x y:V} {u:Value} (r:RelV y u) (f:flatV y=true):eqU x u=eqV y x:=by
 cases y with
 | non=>cases r;rfl
 | bl b=>cases r;rfl
 | int i=>obtain⟨t,rfl⟩:=r;rfl
 | str z=>obtain⟨t,rfl⟩:=r;rfl
 | _=>exact absurd (show false=true from f) Bool.false_ne_true
theorem any_eqU {x:V}:∀{xs:List V} {us:List Value},Vals xs us->xs.all flatV=true->us.any (eqU x)=xs.any fun y=>eqV y x
 | _,_,.nil,_=>rfl
 | y :: xs,u :: us,.cons r t,f=>by
  rw [List.all_cons,Bool.and_eq_true] at f
  rw [List.any_cons,List.any_cons,eqU_of r f.1,any_eqU t f.2]
theorem mem_eqAt {A:Around} {s:Shared} {x:V} {v:Value} (rx:RelV x v) (fx:flatV x=true):∀{xs:List V} {us:List Value},Vals xs us->xs.all flatV=true->∀u∈us,SeqAt.EqAt A s u v (eqU x u)
 | _,_,.nil,_=>fun u hu=>by cases hu
 | y :: xs,u :: us,.cons r t,f=>fun u' hu=>by
  rw [List.all_cons,Bool.and_eq_true] at f
  rcases List.mem_cons.mp hu with rfl | hu
  ·rw [eqU_of r f.1];exact eqAt_V r rx f.1 fx
  ·exact mem_eqAt rx fx t f.2 u' hu
def inV (x:V) (xs:List V):Bool:=xs.any fun y=>eqV y x
def rIn (K:W.Frag) (neg:Bool):R2:=fun x y H Q=>∃p xs,y=.ref p∧(SqL K H p xs∨SqT K H p xs)∧flatV x=true∧xs.all flatV=true∧Q (.bl (if neg then !inV x xs else inV x xs)) H
theorem op_in_seq:OpR X (compareOp .In) (rIn X.K false):=by
 intro pins s σ H x y v u Q I rx ry h
 obtain⟨p,xs,rfl,hq,fx,fs,q⟩:=h
 cases ry
 rcases hq with hq | hq
 ·obtain⟨its,r,pl,hz⟩:=I.list hq
  refine SeqAt.in_listAt (eqU x) pl.isList (fun w hw=>mem_eqAt rx fx r fs w (by simpa using hw)) ⟨.bl _,H,I,rfl,?_⟩
  rw [show its.toArray.any (eqU x)=its.any (eqU x) by simp,any_eqU r fs]
  exact q
 ·obtain⟨its,r,pl,hz⟩:=I.tuple hq
  refine SeqAt.in_tupleAt (eqU x) pl (fun w hw=>mem_eqAt rx fx r fs w (by simpa using hw)) ⟨.bl _,H,I,rfl,?_⟩
  rw [show its.toArray.any (eqU x)=its.any (eqU x) by simp,any_eqU r fs]
  exact q
theorem call_len_seq:CallR X (.builtin "len") (fun xs H Q=>∃p ys,xs=[.ref p]∧(SqL X.K H p ys∨SqT X.K H p ys)∧Q (.int ys.length) H):=by
 intro pins s σ H xs us Q I r h
 obtain⟨p,ys,rfl,hq,q⟩:=h
 obtain⟨u,rfl,rx⟩:=vals1 r
 cases rx
 have hn:=line63
 rcases hq with hq | hq
 ·obtain⟨its,r',pl,hz⟩:=I.list hq
  have hlen:=r'.length
  exact Calls.call_len_list pl.isList (by simp only [List.size_toArray] <;> omega) ⟨.int ys.length,H,I.tok _,⟨s.toks+1,by rw [List.size_toArray,hlen]⟩,q⟩
 ·obtain⟨its,r',pl,hz⟩:=I.tuple hq
  have hlen:=r'.length
  exact len_tuple pl (by simp only [List.size_toArray] <;> omega) ⟨.int ys.length,H,I.tok _,⟨s.toks+1,by rw [List.size_toArray,hlen]⟩,q⟩
theorem call_list_of:CallR X (.type "list") (fun xs H Q=>∃p ys,xs=[.ref p]∧(SqL X.K H p ys∨SqT X.K H p ys)∧∀l,H l=none->Q (.ref l) (upd H l (.lst ys))):=by
 intro pins s σ H xs us Q I r h
 obtain⟨p,ys,rfl,hq,q⟩:=h
 obtain⟨u,rfl,rx⟩:=vals1 r
 cases rx
 have fin:∀(its:List Value),Vals ys its->ys.length<=sizeLine->∀(h':Heap) (c':Nat),(∀b o',s.heap.get? b=some o'->h'.get? b=some o')->
   h'.get? s.heap.objs.size=some { cls:=.type "list",dict:=none,data:=.seq its.toArray c',slots:=#[] }->EP X pins σ Q (.ref s.heap.objs.size) { s with heap:=h' }:=fun its r' hz h' c' kp e=>
  ⟨.ref s.heap.objs.size,_,I.laid (t':=s.toks) kp (Nat.le_refl _) (show ObjOk X.prog X.w _ h' _ (.lst ys) from ⟨hz,its,c',r',e⟩),rfl,q _ (I.hok.fresh (Nat.le_refl _))⟩
 rcases hq with hq | hq
 ·obtain⟨its,r',pl,hz⟩:=I.list hq
  have hlen:=r'.length
  obtain⟨o,ho,hc,n,hd⟩:=pl.isList
  exact call_list_seq p (.inl rfl) ho hc hd (fun h' c' kp e=>fin its r' hz h' c' kp e) (by simp only [List.size_toArray] <;> omega)
 ·obtain⟨its,r',pl,hz⟩:=I.tuple hq
  have hlen:=r'.length
  obtain⟨o,ho,hc,n,hd⟩:=pl
  exact call_list_seq p (.inr rfl) ho hc hd (fun h' c' kp e=>fin its r' hz h' c' kp e) (by simp only [List.size_toArray] <;> omega)
def tyV (K:W.Frag) (T:String) (x:V) (H:Hp):Prop:=match x with
 | .str _=>T = "str"
 | .int _=>T = "int"
 | .ref p=>(T = "list" ∧ ∃xs,SqL K H p xs)∨(T = "tuple" ∧ ∃o,K.lookup p=some o∧o.cls=.type "tuple" ∧ o.dict=none)∨
   (T = "dict" ∧ ((∃kvs,H p=some (.dK kvs))∨∃kvs,H p=some (.dT kvs)))∨(T = "set" ∧ ∃S n,H p=some (.set S n))
 | _=>False
theorem tyV_is {pins:List (Addr×Obj)} {σ:St} {H:Hp} {s:Shared} {T:String} {x:V} {v:Value} (I:Inv X pins σ H s) (r:RelV x v) (ty:tyV X.K T x H):
  s.TypeIs v T∧∀a,v=.ref a->∃ob,s.heap.get? a=some ob∧ob.dict=none:=by
 cases x with
 | str z=>
  obtain⟨t,rfl⟩:=r
  cases (show T = "str" from ty)
  exact⟨typeIs_str s z t,fun _ e=>nomatch e⟩
 | int i=>
  obtain⟨t,rfl⟩:=r
  cases (show T = "int" from ty)
  exact⟨typeIs_int s i t,fun _ e=>nomatch e⟩
 | ref p=>
  cases r
  rcases ty with ⟨rfl,xs,hq⟩ | ⟨rfl,o,hk,hc,hd⟩ | ⟨rfl,hk⟩ | ⟨rfl,S,n,hk⟩
  ·obtain⟨its,_,pl,_⟩:=I.list hq
   refine⟨pl.isList.typeIs,fun a e=>?_⟩
   cases e
   obtain⟨o,n,e,c,hd,_⟩:=pl
   exact⟨o,e,hd⟩
  ·refine⟨⟨o,I.kIn p o hk,hc⟩,fun a e=>?_⟩
   cases e
   exact⟨o,I.kIn _ o hk,hd⟩
  ·have z:∃o,s.heap.get? p=some o∧o.ExactDict:=by
    rcases hk with ⟨kvs,hk⟩ | ⟨kvs,hk⟩
    ·obtain⟨_,_,_,_,o,_,_,e,ex,_⟩:=I.hok p _ hk
     exact⟨o,e,ex⟩
    ·obtain⟨_,_,_,_,o,_,_,e,ex,_⟩:=I.hok p _ hk
     exact⟨o,e,ex⟩
   obtain⟨o,e,ex⟩:=z
   refine⟨⟨o,e,ex.1⟩,fun a e2=>?_⟩
   cases e2
   exact⟨o,e,ex.2.1⟩
  ·obtain⟨o,_,_,_,e,ex,_⟩:=I.hok p _ hk
   refine⟨⟨o,e,ex.1⟩,fun a e2=>?_⟩
   cases e2
   exact⟨o,e,ex.2.1⟩
 | _=>exact False.elim ty
def tBM0 (K:W.Frag) (T:String) (r:V->List V->Hp->VK->Prop) (to:TE):TE:=fun σ H Q=>to σ H fun x H1=>tyV K T x H1∧r x [] H1 Q
def tBM (K:W.Frag) (T:String) (r:V->List V->Hp->VK->Prop) (to:TE) (t:TA):TE:=fun σ H Q=>to σ H fun x H1=>tyV K T x H1∧t σ H1 fun xs H2=>r x xs H2 Q
variable {o e:Expr} {es:List Expr} {to:TE} {t:TA} {name:Str} {apos cpos:Pos} {T id:String} {r:V->List V->Hp->VK->Prop}
theorem pe_bm0 (pa:PlainAttrs T) (slot:Slot T name id) (hty:typeOf (.builtin id)=pure (.type "method_descriptor")) (hm:MtR X id r) (ho:PE X o to)
  (hbase:attributeBase o name X.env (eval o X.env)=eval o X.env:=by rfl) (hline:(apos.endLine == cpos.line)=true:=by rfl):PE X (.Call (.Attribute o name apos) [] [] cpos) (tBM0 X.K T r to):=by
 intro pins s σ H Q I h
 refine wpAny_Call_method0_late hbase hline (thn (ho pins s σ H _ I h) fun v s1 ⟨x,H1,I1,r1,ty,q1⟩=>?_)
 obtain⟨h1,h2⟩:=tyV_is I1 r1 ty
 exact⟨T,id,pa,slot,hty,h1,h2,Calls.callWith_builtin rfl (PySem.evalArgs_none (hm pins s1 σ H1 x [] v [] Q I1 r1 .nil q1))⟩
theorem pe_bm (pa:PlainAttrs T) (slot:Slot T name id) (hty:typeOf (.builtin id)=pure (.type "method_descriptor")) (hm:MtR X id r) (ho:PE X o to) (ha:PA X (e :: es) t)
  (hbase:attributeBase o name X.env (eval o X.env)=eval o X.env:=by rfl)
  (hfew:((backTo cpos (starEach (e :: es) X.env)).all (fun x=>!x.1) && (backToKw cpos (keywordEach [] X.env)).all (fun x=>x.1.isSome)
   && decide ((e :: es).length+([]:List Keyword).length+(if ([]:List Keyword).isEmpty then 0 else 1) < 30))=true:=by rfl)
  (hline:(apos.endLine == cpos.line)=true:=by rfl) (hs:starEach (e :: es) X.env=(false,eval e X.env) :: starEach es X.env:=by rfl) (hplain:(backTo cpos (starEach es X.env)).any (·.1)=false:=by rfl):
  PE X (.Call (.Attribute o name apos) (e :: es) [] cpos) (tBM X.K T r to t):=by
 intro pins s σ H Q I h
 refine wpAny_Call_method_late hbase hfew hline rfl (thn (ho pins s σ H _ I h) fun v s1 ⟨x,H1,I1,r1,ty,q1⟩=>?_)
 obtain⟨h1,h2⟩:=tyV_is I1 r1 ty
 refine⟨T,id,pa,slot,hty,h1,h2,?_⟩
 have hA:=ha cpos pins s1 σ H1 _ I1 q1
 rw [hs] at hA ⊢
 refine Calls.callWith_builtin (by show (false || (backTo cpos (starEach es X.env)).any (·.1))=false;rw [hplain] <;> rfl) (Calls.evalArgs_plain ?_)
 exact thn hA fun us s2 ⟨vs,H2,I2,r2,q2⟩=>hm pins s2 σ H2 x vs v us Q I2 r1 r2 q2
/- xs.append(e),list.index on a module's tuple .. are MtR facts of 06m -/
end
def MtM (X:Cx) (id:String) (r:V->List V->Hp->VK->Prop):Prop:=
 ∀(pins:List (Addr×Obj)) (s:Shared) (σ:St) (H:Hp) (x:V) (xs:List V) (v:Value) (us:List Value) (Q:VK),Inv X pins σ H s->RelV x v->Vals xs us->r x xs H Q->
  wpAny (model X.prog X.w) X.A (call (.builtin id) (v :: us)) (EP X pins σ Q) X.xe s
theorem Vals.one:∀{x:V} {us:List Value},Vals [x] us->∃u,us=[u]∧RelV x u
 | _,_,.cons r .nil=>⟨_,rfl,r⟩
theorem Vals.zero:∀{us:List Value},Vals [] us->us=[]
 | _,.nil=>rfl
theorem Vals.dropLast {xs:List V} {us:List Value} (h:Vals xs us):Vals xs.dropLast us.dropLast:=by
 induction h with
 | nil=>exact .nil
 | cons r t ih=>
  cases t with
  | nil=>exact .nil
  | cons q t'=>exact .cons r ih
theorem Vals.rep {xs:List V} {us:List Value} (h:Vals xs us):∀k:Nat,Vals (List.replicate k xs).flatten (List.replicate k us).flatten
 | 0=>.nil
 | k+1=>by
  rw [List.replicate_succ,List.replicate_succ,List.flatten_cons,List.flatten_cons]
  exact Vals.append h (Vals.rep h k)
theorem erase_last {α:Type} (l:List α):l.eraseIdx (l.length - 1)=l.dropLast:=by
 induction l with
 | nil=>rfl
 | cons a r ih=>
  cases r with
  | nil=>rfl
  | cons b r=>
   have e:(a :: b :: r).length - 1=((b :: r).length - 1)+1:=by
    have h1:(a :: b :: r).length=r.length+2:=rfl
    have h2:(b :: r).length=r.length+1:=rfl
    omega
   rw [e,List.eraseIdx_cons_succ,ih]
   all_goals rfl
theorem foldl_rep (its:List Value):∀(k:Nat) (acc:List Value),
  List.foldl (fun x1 x2=>x1++x2) acc.toArray (List.replicate k its.toArray)=(acc++(List.replicate k its).flatten).toArray
 | 0,acc=>by simp
 | k+1,acc=>by
  have e:acc.toArray++its.toArray=(acc++its).toArray:=by simp
  have e2:(acc++its)++(List.replicate k its).flatten=acc++(List.replicate (k+1) its).flatten:=by
   rw [List.replicate_succ,List.flatten_cons,List.append_assoc]
  rw [← e2,← foldl_rep its k (acc++its),← e,List.replicate_succ,List.foldl_cons]
section
variable {X:Cx} {pins:List (Addr×Obj)} {σ:St} {H:Hp} {s:Shared} {l b:Addr} {xs ys zs:List V}
theorem Inv.lset {its its':List Value} {n:Nat} {f:Array Value->Array Value} {t':Nat} (I:Inv X pins σ H s) (hH:H l=some (.lst xs))
  (e:s.heap.get? l=some { cls:=.type "list",data:=.seq its.toArray n }) (hf:f its.toArray=its'.toArray) (hv:Vals ys its') (hz:ys.length<=sizeLine):
  Inv X pins σ (upd H l (.lst ys)) { s with heap:=s.heap.update l (Obj.mapSeq f),toks:=t' }:=by
 have q:=PySem.IsL.update e f
 rw [hf] at q
 refine I.write (x:=l) (e:=l) (by rw [hH];exact trivial) (.inl rfl) (fun b' u hb hu=>(Heap.get?_update_other s.heap (Obj.mapSeq f) (Ne.symm hb)).trans hu) ⟨_,q⟩ ?_
 exact⟨hz,its',_,hv,q⟩
theorem Inv.lnew {its:List Value} {t':Nat} (I:Inv X pins σ H s) (hv:Vals ys its) (hz:ys.length<=sizeLine):
  Inv X pins σ (upd H s.heap.objs.size (.lst ys)) { s with heap:=s.heap.push { cls:=.type "list",data:=.seq its.toArray },toks:=t' }:=
 I.laid (fun _ _ q=>Heap.get?_push_of_some _ q) (Nat.le_refl _) ⟨hz,its,0,hv,Heap.get?_push_size _ rfl⟩
theorem Inv.fresh (I:Inv X pins σ H s):H s.heap.objs.size=none:=I.hok.fresh (Nat.le_refl _)
theorem Inv.lstM (I:Inv X pins σ H s) (hH:H l=some (.lst xs)):xs.length<=sizeLine∧∃(its:List Value) (n:Nat),Vals xs its∧xs.length=its.length∧s.heap.get? l=some { cls:=.type "list",data:=.seq its.toArray n }:=by
 obtain⟨z,its,n,r,e⟩:=I.hok l _ hH
 exact⟨z,its,n,r,r.length,e⟩
theorem notLongL {n:Nat} (h:n<=sizeLine):Builtin.List.listTooLong n=false:=by
 unfold Builtin.List.listTooLong
 exact decide_eq_false (by omega)
end
section
variable {X:Cx}
def rAppend:V->List V->Hp->VK->Prop:=fun x vs H Q=>∃l xs y,x=.ref l∧vs=[y]∧H l=some (.lst xs)∧xs.length < sizeLine∧Q .non (upd H l (.lst (xs++[y])))
theorem mt_append:MtM X "list.append" rAppend:=by
 intro pins s σ H x vs v us Q I rx rv h
 obtain⟨l,xs,y,rfl,rfl,hH,hz,q⟩:=h
 cases rx
 obtain⟨u,rfl,ru⟩:=rv.one
 obtain⟨z,its,n,r,hl,e⟩:=I.lstM hH
 refine call_meets F.slot_list_append ⟨_,e,rfl⟩ F.entry_list_append (F.args_list_append_2 _ _) (PySem.list_append l its.toArray n u (by rw [List.size_toArray];omega)) ⟨e,?_⟩
 refine⟨.non,_,I.lset (its':=its++[u]) hH e (by simp) (r.append (.cons ru .nil)) ?_,rfl,q⟩
 rw [List.length_append,List.length_singleton]
 omega
def rExtend:V->List V->Hp->VK->Prop:=fun x vs H Q=>∃l b xs zs,x=.ref l∧vs=[.ref b]∧H l=some (.lst xs)∧H b=some (.lst zs)∧xs.length+zs.length<=sizeLine∧Q .non (upd H l (.lst (xs++zs)))
theorem mt_extend:MtM X "list.extend" rExtend:=by
 intro pins s σ H x vs v us Q I rx rv h
 obtain⟨l,b,xs,zs,rfl,rfl,hH,hB,hz,q⟩:=h
 cases rx
 obtain⟨u,rfl,ru⟩:=rv.one
 cases ru
 obtain⟨z,its,n,r,hl,e⟩:=I.lstM hH
 obtain⟨z2,its2,n2,r2,hl2,e2⟩:=I.lstM hB
 have hsz:its.toArray.size+its2.toArray.size<=sizeLine:=by rw [List.size_toArray,List.size_toArray];omega
 have hlong:¬(!its.toArray.isEmpty && Builtin.List.listTooLong (its.toArray.size+its2.toArray.size))=true:=by
  rw [notLongL hsz,Bool.and_false]
  exact Bool.false_ne_true
 refine call_meets F.slot_list_extend ⟨_,e,rfl⟩ F.entry_list_extend (F.args_list_extend_2 _ _)
  (AutoSeq1.list_extend_list_list_0 l its.toArray n b its2.toArray n2 hlong (by rw [List.size_toArray];omega) (by omega)) ⟨e,e2,?_⟩
 refine⟨.non,_,I.lset (its':=its++its2) hH e (by simp) (r.append r2) ?_,rfl,q⟩
 rw [List.length_append]
 omega
def rPop:V->List V->Hp->VK->Prop:=fun x vs H Q=>∃l xs y,x=.ref l∧vs=[]∧H l=some (.lst xs)∧xs[xs.length - 1]?=some y∧Q y (upd H l (.lst xs.dropLast))
theorem mt_pop:MtM X "list.pop" rPop:=by
 intro pins s σ H x vs v us Q I rx rv h
 obtain⟨l,xs,y,rfl,rfl,hH,hy,q⟩:=h
 cases rx
 have hus:=rv.zero
 subst hus
 obtain⟨z,its,n,r,hl,e⟩:=I.lstM hH
 obtain⟨u,hu,ru⟩:=r.get hy
 have hy':its.toArray[its.toArray.size - 1]?=some u:=by
  show its.toArray[its.length - 1]?=some u
  rw [← Array.getElem?_toList,← hl]
  exact hu
 refine call_meets F.slot_list_pop ⟨_,e,rfl⟩ F.entry_list_pop (F.args_list_pop_1 _) (MeetsSeq.list_pop_last l its.toArray n u hy' (by rw [List.size_toArray];omega)) ⟨e,?_⟩
 refine⟨y,_,I.lset (its':=its.dropLast) hH e ?_ r.dropLast ?_,ru,q⟩
 ·show its.toArray.eraseIdxIfInBounds (its.toArray.size - 1)=its.dropLast.toArray
  rw [List.size_toArray,List.eraseIdxIfInBounds_toArray,erase_last]
 ·rw [List.length_dropLast]
  omega
def rClear:V->List V->Hp->VK->Prop:=fun x vs H Q=>∃l xs,x=.ref l∧vs=[]∧H l=some (.lst xs)∧Q .non (upd H l (.lst []))
theorem mt_clear:MtM X "list.clear" rClear:=by
 intro pins s σ H x vs v us Q I rx rv h
 obtain⟨l,xs,rfl,rfl,hH,q⟩:=h
 cases rx
 have hus:=rv.zero
 subst hus
 obtain⟨z,its,n,r,hl,e⟩:=I.lstM hH
 refine call_meets F.slot_list_clear ⟨_,e,rfl⟩ F.entry_list_clear (F.args_list_clear_1 _) (AutoSeq1.list_clear_list_0 l its.toArray n (by rw [List.size_toArray];omega)) ⟨e,?_⟩
 exact⟨.non,_,I.lset (its':=[]) (ys:=[]) hH e rfl .nil (Nat.zero_le _),rfl,q⟩
def rCat:R2:=fun x y H Q=>∃l b xs zs,x=.ref l∧y=.ref b∧H l=some (.lst xs)∧H b=some (.lst zs)∧xs.length+zs.length<=sizeLine∧∀p,H p=none->Q (.ref p) (upd H p (.lst (xs++zs)))
theorem op_cat:OpR X (binaryOp .Add) rCat:=by
 intro pins s σ H x y v u Q I rx ry h
 obtain⟨l,b,xs,zs,rfl,rfl,hH,hB,hz,q⟩:=h
 cases rx
 cases ry
 obtain⟨z,its,n,r,hl,e⟩:=I.lstM hH
 obtain⟨z2,its2,n2,r2,hl2,e2⟩:=I.lstM hB
 refine PySem.P.add_list e e2 ?_ (by rw [List.size_toArray,List.size_toArray];omega)
 have ea:its.toArray++its2.toArray=(its++its2).toArray:=by simp
 rw [ea]
 exact⟨.ref _,_,I.lnew (t':=s.toks) (r.append r2) (by rw [List.length_append];omega),rfl,q _ I.fresh⟩
def rRep:R2:=fun x y H Q=>∃l k xs,x=.ref l∧y=.int k∧H l=some (.lst xs)∧-(2 ^ 63)<=k∧k < 2 ^ 63∧xs.length * k.toNat<=sizeLine∧
 ∀p,H p=none->Q (.ref p) (upd H p (.lst (List.replicate k.toNat xs).flatten))
theorem len_rep {α:Type} (xs:List α) (k:Nat):(List.replicate k xs).flatten.length=k * xs.length:=by
 induction k with
 | zero=>simp
 | succ k ih=>rw [List.replicate_succ,List.flatten_cons,List.length_append,ih,Nat.succ_mul,Nat.add_comm]
theorem op_rep:OpR X (binaryOp .Mult) rRep:=by
 intro pins s σ H x y v u Q I rx ry h
 obtain⟨l,k,xs,rfl,rfl,hH,h1,h2,hz,q⟩:=h
 cases rx
 obtain⟨t,rfl⟩:=ry
 obtain⟨z,its,n,r,hl,e⟩:=I.lstM hH
 have hlen:its.toArray.size * k.toNat<=sizeLine:=by rw [List.size_toArray,← hl];exact hz
 have hcap:¬its.toArray.size * k.toNat > (2 ^ 63 - 1) / 8:=by
  have:(sizeLine:Nat)<=(2 ^ 63 - 1) / 8:=by decide
  omega
 have hfit:¬(!Builtin.List.listFitsIndex k)=true:=by
  rw [fitsIndex_both h1 h2]
  exact Bool.false_ne_true
 have hlong:¬Builtin.List.listTooLong (its.toArray.size * k.toNat)=true:=by
  rw [notLongL hlen]
  exact Bool.false_ne_true
 have hnew:List.foldl (fun x1 x2=>x1++x2) #[] (List.replicate (if its.toArray.isEmpty=true then 0 else k.toNat) its.toArray)=(List.replicate k.toNat its).flatten.toArray:=by
  have f0:∀m:Nat,List.foldl (fun x1 x2=>x1++x2) #[] (List.replicate m its.toArray)=(List.replicate m its).flatten.toArray:=fun m=>by
   have:=foldl_rep its m []
   rw [List.nil_append] at this
   exact this
  rw [f0]
  cases its with
  | nil=>simp
  | cons a r'=>rw [if_neg (by simp)]
 refine wpAny_binaryOp_repeat_ref (T := "list") (U := "int") (by decide) ⟨_,e,rfl⟩ (fun s'=>typeIs_int s' k t) noFill_list_mul F.fills_int_mul F.slot_int_rmul repeat_list F.slot_int_index.lookup
  (call_meets F.slot_int_rmul (typeIs_int s k t) F.entry_int_rmul (F.args_int_rmul_2 _ _) (int___rmul___int_list k t l its.toArray n)
   ⟨e,rfl,⟨_,e,rfl⟩,call_meets F.slot_list_mul ⟨_,e,rfl⟩ F.entry_list_mul (F.args_list_mul_2 _ _) (AutoListH.list___mul___list_int_3 l its.toArray n k t hfit hcap hlong) ⟨e,?_⟩⟩)
 rw [hnew]
 exact⟨.ref _,_,I.lnew (t':=s.toks) (r.rep k.toNat) (by rw [len_rep,Nat.mul_comm];exact hz),rfl,q _ I.fresh⟩
end
section
variable {prog:Program} {w:World} {A:Around} {E:Value->Shared->Prop} {s:Shared}
end
section
variable {X:Cx}
end
end L2
namespace Att
open PySem PySem.W PySem.Calls PyProof.Rows
theorem ints_of_wellAll {P:Params} {h:Heap}:∀(ns:List Int) (vs:List Value),WellAll P h vs (ns.map WData.int)->IntsAre vs ns:=by
 intro ns
 induction ns with
 | nil=>
  intro vs w
  rw [List.map_nil] at w
  cases w
  exact .nil
 | cons n ns ih=>
  intro vs w
  rw [List.map_cons] at w
  cases w with
  | cons a b=>
   cases a
   exact .cons _ _ (ih _ b)
theorem script_of {l:OpenLaw} {n:Nat} (hn:l.most=some n) {P:Params} {h:Heap} {args:List WData} {vals:List Value}
  (hpre:l.row.toRowW.claim.pre args=true) (hwl:WellAll P h vals args):
  ∃a vs ns,vals=[Value.ref a]∧args=[WData.list (ns.map WData.int)]∧h.get? a=some { cls:=.type "list",data:=.seq vs.toArray }∧IntsAre vs ns∧ns.length<=n:=by
 have hsh:WShape.hasAll [] args [.list .int]=true:=(pre_splitW hpre).1
 have hc:l.pre.holds [] { args:=args }=true:=(pre_splitW hpre).2
 obtain⟨d,r,rfl,h1,h2⟩:=hasAllW_cons hsh
 obtain rfl:=hasAllW_nil h2
 obtain⟨xs,rfl,h3⟩:=hasW_list h1
 obtain⟨ns,rfl⟩:=items_int h3
 have hlen:ns.length<=n:=by
  unfold OpenLaw.pre at hc
  have h4:(WTm.not (.lt (.lit (.int (n:Int))) (.len (.arg 0)))).holds [] { args:=[.list (ns.map .int)] }=true:=by
   have h4:=(holds_andW hc).1
   rw [hn] at h4
   exact h4
  have h5:=condW_of h4 (w_not (w_lt w_lit (w_len_list (w_arg rfl))))
  rw [List.length_map] at h5
  refine Nat.le_of_not_lt fun q=>?_
  have q':(n:Int) < ((ns.length:Nat):Int):=by omega
  first
   |(rw [decide_eq_true q'] at h5;exact absurd h5 (by decide))
   |(simp at h5;omega)
 cases hwl with
 | cons w1 w2=>
  cases w2
  cases w1 with
  | list ho hall=>exact⟨_,_,ns,rfl,rfl,ho,ints_of_wellAll ns _ hall,hlen⟩
theorem post_true (l:OpenLaw) (args:List WData):l.row.toRowW.claim.post args (.bool true) args=true:=
 postW_of (r:=l.row.toRowW) (X:=(true == true))
  (show WShape.has [] (.bool true) .bool=true by first | rfl | decide | simp [WShape.has,WShape.arms,WShape.armsAll])
  (show (WTm.eq .res (.lit (.bool true))).value [] { args:=args,res:=some (.bool true),after:=args }=some (.bool (true == true)) from w_eq_bool (w_res rfl) w_lit) rfl
theorem attach_call {l:OpenLaw} {n:Nat} {q:Program} {loose:List Str} {XP:(Str->Option Value)->Heap->Prop} {YP:World->Heap->Prop} {d:DefRec}
  (hn:l.most=some n) (hdf:d.params.defaults=[])
  (call:∀(w:World) (s₀ s₁:Shared) (mg mb:Str->Option Value) (fa:Addr) (o:Obj) (pm cd doc:Value) (a:Addr) (vs:List Value) (ns:List Int),
   Ground q loose [] XP w s₀ mg mb s₁.heap->YP w s₁.heap->
   s₁.heap.get? fa=some o->o.data=.func (docDef d.name d.params d.body d.scope pm cd doc)->s₁.heap.CodeRec cd d.name->mg d.name=some (.ref fa)->
   s₁.heap.get? a=some { cls:=.type "list",data:=.seq vs.toArray }->IntsAre vs ns->ns.length<=n->s₁.gens=#[]->
   codeAny (model l.prog w) callerA (.call (.ref fa) ⟨[.ref a],[]⟩) (fun r s'=>r=.ok (.ret (.bool true))∧OldK s₁.heap s'.heap∧s'.os=s₁.os∧AllBare s'.gens) s₁):
  WalkO q loose XP YP l.row.toRowW d [] (fun f vs=>PySem.call f vs):=by
 intro w s₀ s₁ mg mb G Y fa o pm cd doc dV kV ho hd hcd hD hmg hg args vals as hpre hlay hrd hwl hlo
 obtain rfl:dV=.none:=Dflts.none hD hdf
 obtain rfl:kV=.none:=Dflts.noKw hD
 obtain⟨a,vs,ns,rfl,rfl,hobj,hints,hlen⟩:=script_of hn hpre hwl
 refine enter_call (codeAny_mono (call w s₀ s₁ mg mb fa o pm cd doc a vs ns G Y ho (fd_plain hd) hcd hmg hobj hints hlen hg) fun r s' hq=>?_)
 obtain⟨rfl,h2,h3,h4⟩:=hq
 exact⟨.inl ⟨.bool true,.bool true,[],rfl,fun _=>rfl,.bool true,post_true l _,fun _=>⟨List.Pairwise.nil,fun _ hm=>(nomatch hm)⟩⟩,h2,h3,h4⟩
section
variable {prog:Program} {w:World} {A:Around} {E:Value->Shared->Prop} {s:Shared} {K:Frag}
def ledger (h:Heap) (L d:Addr):List (Addr×Obj):=(List.range h.objs.size).filterMap fun a=>if a=L∨a=d then none else (h.get? a).map fun o=>(a,o)
end
end Att
namespace L2
open PySem PySem.Spec PyProof.Rows
theorem vals_ints:∀{vs:List Value} {ns:List Int},IntsAre vs ns->Vals (ns.map V.int) vs
 | _,_,.nil=>.nil
 | _,_,.cons n t h=>.cons ⟨t,rfl⟩ (vals_ints h)
def Only (H:Hp):Prop:=∀b,H b=none∨∃o xs,H b=some (.frz o (.lst xs))
theorem law_call {P:Program} {w:World} {K:W.Frag} {mg mb:Str->Option Value} {CX:CXT} {k:Nat} {fa a:Addr} {fd:FuncData} {x:Str} {sp:Sp} {s₁:Shared} {vs:List Value} {ns:List Int}
  (KX:K.In s₁.heap) (hns:s₁.heap.Ns mainGlobals mg) (hb:s₁.heap.Ns builtinsNs mb) (hbb:∀x:Str,x ≠ "__name__" -> mb x=bootBuiltins x) (hlim:s₁.heap.NoLimit) (hg:s₁.gens=#[])
  (ha:s₁.heap.get? a=some { cls:=.type "list",data:=.seq vs.toArray }) (hi:IntsAre vs ns) (hl:ns.length<=sizeLine) (hr:Room k callerA)
  (F:∀base:Heap,K.In base->base.Ns mainGlobals mg->FnOk P w K mg base CX k fa fd [x] sp) (hbind:∀(s:Shared) (u:Value),BindsTo s fd ⟨[u],[]⟩ [(x,u)])
  (hsp:∀H:Hp,Only H->SqL K H a (ns.map V.int)->sp [.ref a] H (fun v _=>v=.bl true) fun _ _ _=>False)
  (hCX:∀H e s',CX [] H s₁ (fun _ _ _=>False) e s'->False):
  codeAny (model P w) callerA (.call (.ref fa) ⟨[.ref a],[]⟩) (fun r s'=>r=.ok (.ret (.bool true))∧OldK s₁.heap s'.heap∧s'.os=s₁.os∧AllBare s'.gens) s₁:=by
 have rv:=vals_ints hi
 have lenV:=hi.length
 have core:∀H:Hp,Only H->SqL K H a (ns.map V.int)->HOk P w H s₁.heap->(∀b,H b≠none->b=a)->(H a≠none->K.lookup a=none)->
   codeAny (model P w) callerA (.call (.ref fa) ⟨[.ref a],[]⟩) (fun r s'=>r=.ok (.ret (.bool true))∧OldK s₁.heap s'.heap∧s'.os=s₁.os∧AllBare s'.gens) s₁:=by
  intro H hO hS hok hA hK
  have base_of:∀{b:Addr} {o:Obj},s₁.heap.get? b=some o->H b=none->(hidT s₁.heap H).get? b=some o:=fun e n=>hidT_get e n
  have noA:∀{b:Addr} {o:Obj} {es:Array DictEntry} {ep:Nat},s₁.heap.get? b=some o->o.data=.dict es ep->H b=none:=fun {b o es ep} e d=>by
   cases q:H b with
   | none=>rfl
   | some u=>
    have e':b=a:=hA b (by rw [q];simp)
    subst e'
    rw [ha] at e;cases e
    have d':Data.seq vs.toArray _=Data.dict es ep:=d
    cases d'
  have nsK:∀{b:Addr} {m:Str->Option Value},s₁.heap.Ns b m->(hidT s₁.heap H).Ns b m:=fun {b m} ⟨o,es,ep,e,d,r⟩=>⟨o,es,ep,base_of e (noA e d),d,r⟩
  have hKb:K.In (hidT s₁.heap H):=fun b o e=>base_of (KX b o e) (by
   cases q:H b with
   | none=>rfl
   | some u=>
    have e':b=a:=hA b (by rw [q];simp)
    subst e'
    rw [hK (by rw [q];simp)] at e;cases e)
  have hM:Mod K mg (hidT s₁.heap H):=⟨hKb,nsK hns,⟨mb,nsK hb,hbb⟩,let ⟨mc,h1,h2⟩:=hlim;⟨mc,nsK h1,h2⟩⟩
  have e0:Env0 P w K mg (hidT s₁.heap H) callerA [] s₁ H:=⟨rfl,hM,fun b o e=>of_hidT e,Nat.le_of_eq (hidT_size _ _),trivial,fun b hb=>absurd (show b∈([]:List Addr) from hb) (by simp),hok,.of_eq hg⟩
  refine codeAny_mono ((F _ hKb (nsK hns)).run callerA [] s₁ H ⟨[.ref a],[]⟩ [.ref a] [.ref a] _ _ hr e0 (hbind s₁ (.ref a)) (.cons rfl .nil) (hsp H hO hS)) fun r s' h=>?_
  cases r with
  | error e=>exact (hCX H e s' h).elim
  | ok fl=>
   cases fl with
   | next=>exact False.elim h
   | brk=>exact False.elim h
   | cont=>exact False.elim h
   | ret u=>
    obtain⟨v,H',os,bare,un,hok',r',q⟩:=h
    have q':v=.bl true:=q
    subst q'
    obtain rfl:u=Value.bool true:=r'
    refine⟨rfl,OldK.of_keep fun b o e=>?_,os,bare⟩
    cases q:H b with
    | none=>exact un.keep b o e q (by intro z;exact absurd (show b∈([]:List Addr) from z) (by simp)) (by simp)
    | some u=>
     rcases hO b with z | ⟨ob,xs,z⟩
     ·rw [q] at z;cases z
     ·have z2:=un.frzs b ob _ z
      obtain⟨e1,_⟩:=hok b _ z
      obtain⟨e2,_⟩:=hok' b _ z2
      rw [e] at e1;cases e1
      exact e2
 cases hk:K.lookup a with
 | some o=>
  have e:=KX a o hk
  rw [ha] at e
  cases e
  refine core (fun _=>none) (fun _=>.inl rfl) (.inr ⟨_,vs.toArray,_,hk,rfl,rfl,rfl,by rw [List.size_toArray,lenV];exact hl,by simpa using rv⟩) (fun b u z=>by have z':(none:Option HO)=some u:=z;cases z') (fun b z=>absurd rfl z) fun z=>absurd rfl z
 | none=>
  refine core (fun b=>if b=a then some (.frz { cls:=.type "list",data:=.seq vs.toArray } (.lst (ns.map V.int))) else none) (fun b=>?_) (.inl (.inr ⟨{ cls:=.type "list",data:=.seq vs.toArray },if_pos rfl⟩)) (fun b u z=>?_) (fun b z=>?_) fun _=>hk
  ·by_cases hb:b=a
   ·exact .inr ⟨_,_,if_pos hb⟩
   ·exact .inl (if_neg hb)
  ·by_cases hb:b=a
   ·have z':=(if_pos hb).symm.trans z
    cases z'
    subst hb
    exact⟨ha,by rw [List.length_map];exact hl,vs,_,rv,ha⟩
   ·have z':=(if_neg hb).symm.trans z
    cases z'
  ·by_cases hb:b=a
   ·exact hb
   ·exact absurd (if_neg hb) z
theorem walk_of {l:PySem.W.OpenLaw} {n k:Nat} {q:Program} {loose:List Str} {XP:(Str->Option Value)->Heap->Prop} {YP:World->Heap->Prop} {d:DefRec} {K:Params->W.Frag} {CX:World->CXT} {sp:World->Sp} {x:Str}
  (hn:l.most=some n) (hn2:n<=sizeLine) (hdf:d.params.defaults=[]) (hr:Room k callerA)
  (hY:∀(w:World) (h:Heap),YP w h->(K w.params).In h)
  (F:∀(w:World) (mg:Str->Option Value) (fa:Addr) (h:Heap),(K w.params).In h->h.Ns mainGlobals mg->mg d.name=some (.ref fa)->
   ∃fd:FuncData,(∀(s:Shared) (u:Value),BindsTo s fd ⟨[u],[]⟩ [(x,u)])∧
    ∀base:Heap,(K w.params).In base->base.Ns mainGlobals mg->FnOk l.prog w (K w.params) mg base (CX w) k fa fd [x] (sp w))
  (hsp:∀(w:World) (H:Hp) (a:Addr) (ns:List Int),ns.length<=n->Only H->SqL (K w.params) H a (ns.map V.int)->sp w [.ref a] H (fun v _=>v=.bl true) fun _ _ _=>False)
  (hCX:∀(w:World) (H:Hp) (s:Shared) (e:Value) (s':Shared),CX w [] H s (fun _ _ _=>False) e s'->False):
  PySem.W.WalkO q loose XP YP l.row.toRowW d [] (fun f vs=>PySem.call f vs):=by
 refine Att.attach_call hn hdf fun w s₀ s₁ mg mb fa o pm cd doc a vs ns G Y ho hd hcd hmg hobj hints hlen hg=>?_
 have KX:=hY w _ Y
 obtain⟨fd,hb,hF⟩:=F w mg fa _ KX G.T.g hmg
 exact law_call KX G.T.g G.T.b G.T.builtins G.T.nolimit hg hobj hints (Nat.le_trans hlen hn2) hr hF hb (fun H hO hS=>hsp w H a ns hlen hO hS) fun H e s'=>hCX w H s₁ e s'
def defArgs (s:Stmt):Arguments:=match s with
 | .FunctionDef _ a _ _ _ _ _ _ _ _=>a
 | _=>{ posonlyargs:=[],args:=[],vararg:=none,kwonlyargs:=[],kw_defaults:=[],kwarg:=none,defaults:=[] }
def defBody (s:Stmt):List Stmt:=match s with
 | .FunctionDef _ _ b _ _ _ _ _ _ _=>b
 | _=>[]
def defScope (s:Stmt):Scope:=match s with
 | .FunctionDef _ _ _ _ _ _ sc _ _ _=>sc
 | _=>{ kind:=.function,names:=[],isGenerator:=false,isCoroutine:=false }
abbrev CX0:CXT:=fun _ _ _ _ _ _=>False
abbrev E0:XK:=fun _ _ _=>False
theorem pass0 {X:Cx}:Passes CX0 X E0:=fun _ _ _ _ _ _ _ h=>h.elim
structure Fun (K:W.Frag) (x qual:Str) (st:Stmt) (f:Addr) (fd:FuncData):Prop where
 ex:∃(oc:Value) (od:Option Addr) (kV doc pm:Value) (an:Option Addr) (cdv ct:Value) (osl:Array (Option Value)),
  fd=PySem.W.fnOf x qual (defArgs st) (defBody st) (defScope st) .none kV doc pm an cdv ct∧K.lookup f=some ⟨oc,od,.func fd,osl⟩∧PySem.W.codeIn K cdv qual=true
 kp:PySem.W.keepIn K (.ref f)=true
section
variable {P:Program} {w:World} {K:W.Frag} {mg:Str->Option Value} {base:Heap}
theorem Fun.ok {x qual:Str} {st:Stmt} {f:Addr} {fd:FuncData} {N ps:List Str} {k:Nat} {sp:Sp} (F:Fun K x qual st f fd) (S:FnScope N ps (defScope st)) (len:∀vs H Q E,sp vs H Q E->vs.length=ps.length)
  (hbody:∀(cdv:Value) (A:Around) (outer:List Env) (s:Shared) (H:Hp) (vs:List V) (Q:VK) (E:XK),Room k (A.deeper (envOfC qual (defScope st) s.heap.objs.size f cdv))->sp vs H Q E->
   ∃t,PSs (cxOf CX0 P w K mg base N qual (defScope st) f cdv A outer s H E).nox (defBody st) t∧t { nx:=fun _ H'=>Q .non H',rt:=Q } (start N vs) H):FnOk P w K mg base CX0 (k+1) f fd ps sp:=by
 obtain⟨oc,od,kV,doc,pm,an,cdv,ct,osl,rfl,lk,hcd⟩:=F.ex
 refine fn_of lk hcd S len fun A outer s H vs Q E hr hsp=>?_
 obtain⟨t,h,q⟩:=hbody cdv A outer s H vs Q E hr hsp
 exact⟨t,h.nox,q⟩
theorem Fun.binds {x qual:Str} {st:Stmt} {f:Addr} {fd:FuncData} {ps:List Str} (F:Fun K x qual st f fd)
  (h:∀(kV doc pm:Value) (an:Option Addr) (cdv ct:Value) (us:List Value),us.length=ps.length->bindArgs (PySem.W.fnOf x qual (defArgs st) (defBody st) (defScope st) .none kV doc pm an cdv ct) ⟨us,[]⟩=pure (ps.zip us)):Binds K fd ps []:=by
 obtain⟨oc,od,kV,doc,pm,an,cdv,ct,osl,rfl,lk,hcd⟩:=F.ex
 exact .all (h kV doc pm an cdv ct)
theorem fun_mk {x qual:Str} {st:Stmt} {f:Addr} {oc:Value} {od an:Option Addr} {osl:Array (Option Value)} {kV doc pm cdv ct:Value} (l:K.lookup f=some ⟨oc,od,.func (PySem.W.fnOf x qual (defArgs st) (defBody st) (defScope st) .none kV doc pm an cdv ct),osl⟩)
  (c:PySem.W.codeIn K cdv qual=true) (k:PySem.W.keepIn K (.ref f)=true):Fun K x qual st f (PySem.W.fnOf x qual (defArgs st) (defBody st) (defScope st) .none kV doc pm an cdv ct):=⟨⟨oc,od,kV,doc,pm,an,cdv,ct,osl,rfl,l,c⟩,k⟩
end
theorem small1000 {n:Nat} (h:n<=1000):n < sizeLine:=Nat.lt_of_le_of_lt h (by decide)
section
variable {X:Cx}
theorem pv (i:Nat) {x:Str} {pos:Pos} (hN:X.N[i]?=some x:=by rfl) (hv:Vis X.env.scope x:=by first | exact Or.inl rfl | exact Or.inr (Or.inl rfl) | exact Or.inr (Or.inr rfl)) (hd:(x == ("__debug__" : Str))=false:=by decide)
  (hcd:(x == ("__classdict__" : Str))=false:=by decide):PE X (.Name x pos) (tVar i):=pe_var hN hv hd hcd
end
theorem ite2 {c A B:Prop} [Decidable c] (h1:c->A) (h2:¬c->B):if c then A else B:=by
 by_cases h:c
 ·rw [if_pos h]
  exact h1 h
 ·rw [if_neg h]
  exact h2 h
def Same (H H':Hp):Prop:=∀b o,H b=some o->H' b=some o
theorem Same.refl (H:Hp):Same H H:=fun _ _ h=>h
theorem Same.trans {H H1 H2:Hp} (a:Same H H1) (b:Same H1 H2):Same H H2:=fun c o h=>b c o (a c o h)
theorem Same.free {H H':Hp} (e:Same H H') {l:Addr} (h:H' l=Option.none):H l=Option.none:=by
 cases q:H l with
 | none=>rfl
 | some o=>
  rw [e l o q] at h
  cases h
theorem Same.seq {K:W.Frag} {H H':Hp} {a:Addr} {xs:List V} (e:Same H H') (h:SqL K H a xs):SqL K H' a xs:=by
 rcases h with (h | ⟨o,h⟩) | h
 ·exact .inl (.inl (e _ _ h))
 ·exact .inl (.inr ⟨o,e _ _ h⟩)
 ·exact .inr h
@[reducible] def blk (X:Cx) (x:Str) (fv:List (Nat×Str)) (scope:Scope) (cl:List (Str×Addr)) (C:Addr) (s:Shared) (H:Hp) (fp:List Addr):Cx where
 prog:=X.prog
 w:=X.w
 K:=X.K
 mg:=X.mg
 base:=X.base
 A:=X.A
 N:=x :: fv.map (·.2)
 s₀:=s
 H₀:=H
 env:=compEnvC scope cl C X.env
 outer:=X.stack
 stack:=X.stack
 ex:=fp
 fn:=fun _=>false
 calm:=X.calm
 pn:=[]
 xe:=fun _ _=>False
def bst (fv:List (Nat×Str)) (σ:St) (v:Option V):St:=v :: fv.map fun p=>(σ[p.1]?).getD none
structure BlkOk (X:Cx) (x:Str) (fv:List (Nat×Str)) (scope:Scope) (cl:List (Str×Addr)):Prop where
 clos:closureFor scope X.env=pure cl
 nocell:∀y∈scope.names,y.2≠.cell
 kind:scope.kind=.function
 names:∀y∈scope.names,y.2=.local->scope.names.lookup y.1=some .local
 here:scope.names.lookup x=some .local
 sub:∀y c,cl.lookup y=some c->X.env.cells.lookup y=some c
 has:∀y,((relabel scope X.env).names.lookup y=some .cell∨(relabel scope X.env).names.lookup y=some .free)->∃c,cl.lookup y=some c
 fvs:∀p∈fv,p.2≠x∧X.N[p.1]?=some p.2∧(X.env.scope.names.lookup p.2=some .cell∨X.env.scope.names.lookup p.2=some .free)∧
  ((relabel scope X.env).names.lookup p.2=some .cell∨(relabel scope X.env).names.lookup p.2=some .free)∧∃c,cl.lookup p.2=some c
theorem compLoop_one {prog:Program} {w:World} {A:Around} {R:Result->Shared->Prop} {s:Shared} {elt target iter:Expr} {scope:Scope} {pos:Pos} {it acc:Value} {env:Env} (I:Nat->Shared->Prop)
  (turn:∀n s (E:Value->Shared->Prop),I n s->wpAny (model prog w) A (pyNext it) (fun r s₁=>match r with
   | none=>R (.ok .next) s₁
   | some v=>wpAny (model prog w) A (letOwnedTupleGo target it v) (fun _ s₂=>wpAny (model prog w) A (assign target env v) (fun _ s₃=>wpAny (model prog w) A (eval elt env) (fun x s₄=>
     wpAny (model prog w) A (call (.builtin "list.append") [acc,x]) (fun _ s₅=>∃m,m < n∧I m s₅) E s₄) E s₃) E s₂) E s₁) E s)
  (n:Nat) (h:I n s):
  codeAny (model prog w) A (.compLoop (.ListComp elt [⟨target,iter,[],0⟩] scope pos) 0 it acc env) R s:=by
 refine codeAny_loop rfl I (fun n s hI=>?_) n h
 show wpAny _ _ ((compTurn (.ListComp elt [⟨target,iter,[],0⟩] scope pos) 0 it acc env).onRaise (fun x=>do noteFrame x env;theTreesLotGoes x)) _ _ s
 refine wpAny_noted ?_
 rw [PySem.compTurn_list1]
 refine wpAny_bind (wpAny_standAt (wpAny_bind (wpAny_mono (turn n s _ hI) (fun r s₁ h₁=>?_) fun _ _ h'=>h')))
 cases r with
 | none=>exact wpAny_pure h₁
 | some v=>
  exact wpAny_bind (thn h₁ fun _ s₂ h₂=>wpAny_bind (thn h₂ fun _ s₃ h₃=>wpAny_bind (wpAny_bind (thn h₃ fun x s₄ h₄=>wpAny_bind (thn h₄ fun _ s₅ h₅=>wpAny_pure (wpAny_pure ⟨rfl,h₅⟩))))))
section
variable {X:Cx} {elt iter:Expr} {x:Str} {px:Pos} {fv:List (Nat×Str)} {scope:Scope} {cl:List (Str×Addr)} {pos:Pos} {te:TE} {wi:TI}
def tComp (fv:List (Nat×Str)) (wi:TI) (te:TE):TE:=fun σ H Q=>wi σ H fun J H1=>∀D,H1 D=none->∃W:Nat->Nat->Hp->Prop,(∃m,W 0 m (upd H1 D (.lst [])))∧∀i m H,W i m H->
 (J.stop i H∧Q (.ref D) H)∨(J.go i H∧∃N:Hp->Prop,(∀H',N H'->∃m',m' < m∧W (i+1) m' H')∧∀v H',J.yld i H v H'->te (bst fv σ (some v)) H' fun y H2=>∃ys,H2 D=some (.lst ys)∧ys.length < sizeLine∧N (upd H2 D (.lst (ys++[y]))))
theorem blk_ok {pins:List (Addr×Obj)} {σ:St} {H:Hp} {s:Shared} {fp:List Addr} {C:Addr} (B:BlkOk X x fv scope cl) (I:Inv X pins σ H s) (hf:∀b∈fp,FpOk X pins H b) (hC:s.heap.objs.size<=C) (hfC:∀b∈fp,b≠C):
  (blk X x fv scope cl C s H fp).Ok where
 mod:=I.ok.mod
 kind:=B.kind
 glob:=I.ok.glob
 blt:=I.ok.blt
 above:=hC
 inj:=fun y z c h1 h2=>I.ok.inj y z c (B.sub y c h1) (B.sub z c h2)
 has:=fun y hy=>B.has y hy
 cab:=fun y c h=>nomatch h
 hd:=I.ok.hd
 frames:=I.ok.frames
 stk:=.inl rfl
 exf:=fun b hb=>⟨hfC b hb,fun y c e=>(hf b hb).2.2.2.2.1 y c (B.sub y c e)⟩
 bs:=I.bs
 bsz:=Nat.le_trans I.ok.bsz I.sz
 noex:=fun b o e hb=>by
  obtain⟨_,_,_,f3,_⟩:=hf b hb
  rcases f3 with z | z
  ·exact I.ok.noex b o e z
  ·exact absurd (Nat.lt_of_lt_of_le (Heap.lt_size e) (Nat.le_trans I.ok.bsz z)) (Nat.lt_irrefl _)
 exfs:=fun b hb hs=>by
  obtain⟨_,f1,f2,_⟩:=hf b hb
  rcases List.mem_cons.mp (I.stkSub b hs) with z | z
  ·exact f1 z
  ·exact f2 z
 funs:=I.stack
 frf:=I.stkFree
theorem bst_get {fv:List (Nat×Str)} {σ:St} {o:Option V} {j:Nat} {y:Str} {v:V} (h1:(x :: fv.map (·.2))[j+1]?=some y) (h2:(bst fv σ o)[j+1]?=some (some v)):∃p∈fv,p.2=y∧σ[p.1]?=some (some v):=by
 have e1:(fv.map (·.2))[j]?=some y:=by simpa using h1
 have e2:(fv.map fun p=>(σ[p.1]?).getD none)[j]?=some (some v):=by simpa [bst] using h2
 rw [List.getElem?_map] at e1 e2
 cases q:fv[j]? with
 | none=>rw [q] at e1;cases e1
 | some p=>
  rw [q] at e1 e2
  refine⟨p,List.mem_of_getElem? q,Option.some.inj e1,?_⟩
  have e3:(σ[p.1]?).getD none=some v:=Option.some.inj e2
  cases r:σ[p.1]? with
  | none=>rw [r] at e3;cases e3
  | some w=>rw [r] at e3;exact congrArg some e3
theorem blk_start {pins:List (Addr×Obj)} {σ:St} {H:Hp} {s s4:Shared} {fp:List Addr} {C:Addr} {m:Str->Option Value} (B:BlkOk X x fv scope cl) (I:Inv X pins σ H s) (hf:∀b∈fp,FpOk X pins H b) (hC:C=s.heap.objs.size)
  (hfC:∀b∈fp,b≠C) (os:s4.os=s.os) (gens:s4.gens=s.gens) (keep:∀b o,s.heap.get? b=some o->s4.heap.get? b=some o) (ns:s4.heap.Ns C m):
  Inv (blk X x fv scope cl C s H fp) [] (bst fv σ none) H s4:=by
 subst hC
 refine⟨blk_ok B I hf (Nat.le_refl _) hfC,os,by rw [gens];exact I.bare,Un.kept keep,⟨m,ns,fun i y v h1 h2 h3=>?_⟩,fun y c e=>?_,I.hok.fresh (Nat.le_refl _),fun y c e=>I.freeC y c (B.sub y c e),fun p hp=>absurd (show p∈([]:List (Addr×Obj)) from hp) (by simp),I.hok.kept keep,by simp [bst]⟩
 ·cases i with
  | zero=>simp [bst] at h2
  | succ j=>
   obtain⟨p,hp,rfl,hv⟩:=bst_get h1 h2
   obtain⟨_,hN,hk,hk2,c,hc⟩:=B.fvs p hp
   obtain⟨m0,_,hl⟩:=I.loc
   have vis:Vis X.env.scope p.2:=hk.elim (fun z=>.inr (.inl z)) fun z=>.inr (.inr z)
   obtain⟨u,r,l⟩:=hl p.1 p.2 v hN hv vis
   refine⟨u,r,.inr ⟨hk2,c,hc,?_⟩⟩
   rcases l with ⟨z,_⟩ | ⟨_,c',hc',o,ho,hd⟩
   ·have z':X.env.scope.names.lookup p.2=some .local:=z
    rcases hk with k | k <;> (rw [k] at z';cases z')
   ·have:=B.sub p.2 c hc
    rw [hc'] at this;cases this
    exact⟨o,keep _ o ho,hd⟩
 ·obtain⟨v,o,ho,hd⟩:=I.cell y c (B.sub y c e)
  exact⟨v,o,keep c o ho,hd⟩
theorem blk_store {pins':List (Addr×Obj)} {σ:St} {H H0:Hp} {s s5:Shared} {fp:List Addr} {C:Addr} {o:Option V} {v:V} {u:Value} {E:Value->Shared->Prop} {Q:Unit->Shared->Prop} (B:BlkOk X x fv scope cl)
  (I:Inv (blk X x fv scope cl C s H0 fp) pins' (bst fv σ o) H s5) (r:RelV v u) (h:∀s6,Inv (blk X x fv scope cl C s H0 fp) pins' (bst fv σ (some v)) H s6->Q () s6):
  wpAny (model X.prog X.w) X.A (assign (.Name x px) (compEnvC scope cl C X.env) u) Q E s5:=by
 obtain⟨m,hn,hl⟩:=id I.loc
 have hk:(relabel scope X.env).names.lookup x=some .local:=lookup_relabel_local B.here
 have hcls:((compEnvC scope cl C X.env).scope.kind == .class || ((compEnvC scope cl C X.env).scope.kind == .module && (compEnvC scope cl C X.env).locals != (compEnvC scope cl C X.env).globals))=false:=by
  have:(compEnvC scope cl C X.env).scope.kind=.function:=B.kind
  rw [this];rfl
 refine wpAny_assign_Name (wpAny_storeName_local hk hn (fun h' hn' hs=>?_) hcls)
 have cne:=I.cne
 obtain⟨oL,_,_,hoL,_⟩:=id hn
 have tracked:HOk X.prog X.w H h':=fun b ob e=>by
  refine (I.hok b ob e).stay (fun c w' hc q=>(hs.2 c ?_).trans q) (fun _ q=>q) fun _ _ q=>q
  intro z
  have z':c=C:=z
  have fr:H C=none:=I.free
  rcases hc with hc | hc
  ·rw [← hc,z',fr] at e;cases e
  ·rw [z',fr] at hc;cases hc
 refine h _ ⟨I.ok,I.os,I.bare,⟨fun b o e n hb hx=>?_,fun b o e n hb hx=>?_,I.base.free,fun b o e hx=>?_,I.base.tups,I.base.frzs,I.base.tbls⟩,⟨_,hn',fun j y v' e1 e2 e3=>?_⟩,fun y c e=>?_,I.free,I.freeC,fun p hp=>?_,tracked,by simp [bst]⟩
 ·exact (hs.2 b (Nat.ne_of_lt (Nat.lt_of_lt_of_le (Heap.lt_size e) I.ok.above))).trans (I.base.keep b o e n hb hx)
 ·obtain⟨sl,e1⟩:=I.base.slot b o e n hb hx
  exact⟨sl,(hs.2 b (Nat.ne_of_lt (Nat.lt_of_lt_of_le (Heap.lt_size e) I.ok.above))).trans e1⟩
 ·obtain⟨o',e1⟩:=I.base.there b o e hx
  exact⟨o',(hs.2 b (Nat.ne_of_lt (Nat.lt_of_lt_of_le (Heap.lt_size e) I.ok.above))).trans e1⟩
 ·cases j with
  | zero=>
   have e1':x=y:=by simpa using e1
   subst e1'
   have e2':v=v':=by simpa [bst] using e2
   subst e2'
   exact⟨u,r,.inl ⟨hk,by simp⟩⟩
  | succ j=>
   have e2':(bst fv σ o)[j+1]?=some (some v'):=by simpa [bst] using e2
   obtain⟨u',r',q⟩:=hl (j+1) y v' e1 e2' e3
   refine⟨u',r',?_⟩
   obtain⟨p,hp,rfl,_⟩:=bst_get e1 e2
   rcases q with ⟨k,e⟩ | ⟨k,c,e,z⟩
   ·exact .inl ⟨k,by simp [(B.fvs p hp).1,e]⟩
   ·exact .inr ⟨k,c,e,z.sameBut hs (cne _ c e)⟩
 ·obtain⟨w',z⟩:=I.cell y c e
  exact⟨w',z.sameBut hs (cne y c e)⟩
 ·obtain⟨e,n,ne,nf,d⟩:=I.pin p hp
  exact⟨(hs.2 p.1 ne).trans e,n,ne,nf,d⟩
theorem blk_back {X:Cx} {pins:List (Addr×Obj)} {σ:St} {H H5:Hp} {s2 s3 s6:Shared} {fp:List Addr} (I:Inv X pins σ H s2) (hk:HOk X.prog X.w H5 s6.heap) (bare:AllBare s6.gens) (hD:H s2.heap.objs.size=none) (up3:∀b o,s2.heap.get? b=some o->s3.heap.get? b=some o) (ub:Un (frs X.stack) fp (upd H s2.heap.objs.size (.lst [])) H5 s3.heap s6.heap) (os:s6.os=s2.os) (hf:∀b∈fp,FpOk X pins H b):Inv X pins σ H5 s6:=by
 refine I.call' ?_ ((Un.laid up3 (Nat.le_refl _) hD).trans ub) hk bare fun b hb=>?_
 ·exact os
 ·obtain⟨_,f1,f2,f3,f4,f5⟩:=hf b hb
  exact⟨f3,f1,f4,f5⟩
theorem blk_tail {Y:Cx} {prog:Program} {w:World} {K:W.Frag} {tg:Expr} {J:It} {fp:List Addr} {it:Addr} {tn:Nat->Heap->Prop} (T:Turn prog w K tg J fp it tn) {σ':St} {H9:Hp} {s7 s9:Shared} {D:Addr} {ys:List V} {yv:V} {y:Value} {i n:Nat} {N:Hp->Prop} {W:Nat->Nat->Hp->Prop} {E':Value->Shared->Prop} (hx:∀u s,¬Y.xe u s) (st7:tn (i+1) s7.heap) (I9:Inv Y ([]++pinsAt fp s7.heap) σ' H9 s9) (r9:RelV yv y) (hD9:H9 D=some (.lst ys)) (hz:ys.length < sizeLine) (n9:N (upd H9 D (.lst (ys++[yv])))) (hN:∀H',N H'->∃m',m' < n∧W (i+1) m' H'):
  wpAny (model Y.prog Y.w) Y.A (call (.builtin "list.append") [.ref D,y]) (fun _ s₅=>∃m,m < n∧∃H',Inv Y [] σ' H' s₅∧tn (i+1) s₅.heap∧(∀b∈fp,H' b=none)∧W (i+1) m H') E' s9:=by
 have a9:=mt_append (X:=Y) _ s9 _ H9 (.ref D) [yv] (.ref D) [y] (fun _ H10=>H10=upd H9 D (.lst (ys++[yv]))) I9 rfl (.cons r9 .nil)
  ⟨_,ys,yv,rfl,rfl,hD9,hz,rfl⟩
 refine wpAny_mono a9 (fun _ s10 zz=>?_) fun _ _ z=>(hx _ _ z).elim
 obtain⟨_,H10,I10,_,e10⟩:=zz
 subst e10
 obtain⟨m',hm,w9⟩:=hN _ n9
 refine⟨m',hm,_,I10.unpinned,T.keep _ _ _ st7 fun b hb o e=>(I10.pin (b,o) (List.mem_append_right _ (List.mem_append_right _ (mem_pinsAt hb e)))).1,fun b hb=>?_,w9⟩
 obtain⟨o,e,_⟩:=T.obj _ _ st7 b hb
 exact (I10.pin (b,o) (List.mem_append_right _ (List.mem_append_right _ (mem_pinsAt hb e)))).2.1
theorem blk_run {pins:List (Addr×Obj)} {σ:St} {H:Hp} {s2:Shared} {it:Addr} {fp:List Addr} {tn:Nat->Heap->Prop} {J:It} {Q:VK} {E:Value->Shared->Prop} {RR:Value->Addr->Result->Shared->Prop}
  (hc:X.calm=true) (B:BlkOk X x fv scope cl) (he:∀C s H fp,PE (blk X x fv scope cl C s H fp) elt te) (I:Inv X pins σ H s2) (T:Turn X.prog X.w X.K (.Name x px) J fp it tn) (st:tn 0 s2.heap) (hf:∀b∈fp,FpOk X pins H b)
  (rd:∀D,H D=none->∃W:Nat->Nat->Hp->Prop,(∃m,W 0 m (upd H D (.lst [])))∧∀i m H,W i m H->
   (J.stop i H∧Q (.ref D) H)∨(J.go i H∧∃N:Hp->Prop,(∀H',N H'->∃m',m' < m∧W (i+1) m' H')∧∀v H',J.yld i H v H'->te (bst fv σ (some v)) H' fun y H2=>∃ys,H2 D=some (.lst ys)∧ys.length < sizeLine∧N (upd H2 D (.lst (ys++[y])))))
  (hRR:∀D C s' H' m',Inv X pins σ H' s'->FpOk X pins H' C->s'.heap.Ns C m'->Q (.ref D) H'->RR (.ref D) C (.ok .next) s'):
  wpAny (model X.prog X.w) X.A (newList []) (fun acc s₃=>wpAny (model X.prog X.w) X.A (newFunctionEnv scope X.env.globals cl [] X.env.qual none .none (some X.env)) (fun cenv s₄=>
   codeAny (model X.prog X.w) X.A (.compStart (.ListComp elt [⟨.Name x px,iter,[],0⟩] scope pos) 0 (.ref it) acc { cenv with scope:=relabel scope X.env }) (RR acc cenv.locals) s₄) E s₃) E s2:=by
 refine wpAny_newObj_type ?_ (by show 0<=sizeLine;exact Nat.zero_le _)
 have hD:H s2.heap.objs.size=none:=I.hok.fresh (Nat.le_refl _)
 have I3:=I.lnew (ys:=[]) (its:=[]) (t':=s2.toks) .nil (Nat.zero_le _)
 generalize hs3:({ s2 with heap:=s2.heap.push { cls:=.type "list",data:=.seq ([]:List Value).toArray },toks:=s2.toks }:Shared)=s3 at I3
 have sz3:s3.heap.objs.size=s2.heap.objs.size+1:=by rw [← hs3];exact Heap.size_push ..
 have up3:∀b o,s2.heap.get? b=some o->s3.heap.get? b=some o:=fun b o e=>by rw [← hs3];exact Heap.get?_push_of_some _ e
 have hf3:∀b∈fp,FpOk X pins (upd H s2.heap.objs.size (.lst [])) b:=fun b hb=>by
  obtain⟨f0,r⟩:=hf b hb
  refine⟨?_,r⟩
  obtain⟨o,e,_⟩:=T.obj 0 _ st b hb
  rw [upd_ne (Nat.ne_of_lt (Heap.lt_size e))];exact f0
 have ltf:∀b∈fp,b < s2.heap.objs.size:=fun b hb=>by
  obtain⟨o,e,_⟩:=T.obj 0 _ st b hb
  exact Heap.lt_size e
 have st3:tn 0 s3.heap:=T.keep 0 _ _ st fun b _ o e=>up3 b o e
 obtain⟨W,⟨m0,w0⟩,turn⟩:=rd _ hD
 refine wpAny_newFunctionEnv B.nocell (by intro y hy;simp at hy) (fun h₁ hns₁ hsb₁=>?_) B.kind
 have hfC:∀b∈fp,b≠s3.heap.objs.size:=fun b hb=>Nat.ne_of_lt (by rw [sz3];exact Nat.lt_succ_of_lt (ltf b hb))
 have up4:∀b o,s3.heap.get? b=some o->h₁.get? b=some o:=fun b o e=>hsb₁.extBut b o (Nat.ne_of_lt (Heap.lt_size e)) (Heap.get?_push_of_some _ e)
 generalize hs4:({ s3 with heap:=h₁,toks:=s3.toks+([]:List (Str×Value)).length }:Shared)=s4
 have h4:s4.heap=h₁:=by rw [← hs4]
 have I4:Inv (blk X x fv scope cl s3.heap.objs.size s3 (upd H s2.heap.objs.size (.lst [])) fp) [] (bst fv σ none) (upd H s2.heap.objs.size (.lst [])) s4:=
  blk_start B I3 hf3 rfl hfC (by rw [← hs4]) (by rw [← hs4]) (fun b o e=>by rw [h4];exact up4 b o e) (by rw [h4];exact hns₁)
 have st4:tn 0 s4.heap:=by rw [h4];exact T.keep 0 _ _ st3 fun b _ o e=>up4 b o e
 have stat:∀{H':Hp},(∀b∈fp,H' b=none)->∀b∈fp,FpOk (blk X x fv scope cl s3.heap.objs.size s3 (upd H s2.heap.objs.size (.lst [])) fp) [] H' b:=fun {H'} hn b hb=>by
  obtain⟨_,f1,f2,f3,f4,f5⟩:=hf b hb
  refine⟨hn b hb,hfC b hb,fun z=>?_,.inl hb,fun y c e=>f4 y c (B.sub y c e),fun p hp=>absurd (show p∈([]:List (Addr×Obj)) from hp) (by simp)⟩
  rcases List.mem_cons.mp (I.stkSub b z) with q | q
  ·exact f1 q
  ·exact f2 q
 have loop:codeAny (model X.prog X.w) X.A (.compLoop (.ListComp elt [⟨.Name x px,iter,[],0⟩] scope pos) 0 (.ref it) (.ref s2.heap.objs.size) (compEnvC scope cl s3.heap.objs.size X.env)) (RR (.ref s2.heap.objs.size) s3.heap.objs.size) s4:=by
  refine compLoop_one (fun n s'=>∃i H' o,Inv (blk X x fv scope cl s3.heap.objs.size s3 (upd H s2.heap.objs.size (.lst [])) fp) [] (bst fv σ o) H' s'∧tn i s'.heap∧(∀b∈fp,H' b=none)∧W i n H') ?_ m0
   ⟨0,_,none,I4,st4,fun b hb=>(hf3 b hb).1,w0⟩
  rintro n s5 E' ⟨i,H5,o5,I5,st5,fr5,w5⟩
  rcases turn i n H5 w5 with ⟨stop,q⟩ | ⟨go,N,hN,step⟩
  ·refine thn (T.done (blk X x fv scope cl s3.heap.objs.size s3 (upd H s2.heap.objs.size (.lst [])) fp) rfl rfl rfl hc i [] s5 _ H5 _ I5 (stat fr5) st5 stop) fun r s6 ⟨hr,I6⟩=>?_
   subst hr
   obtain⟨m6,hn6,_⟩:=I6.loc
   have J6:Inv X pins σ H5 s6:=blk_back I I6.hok I6.bare hD up3 I6.base (I6.os.trans (by rw [← hs3])) hf
   refine hRR _ _ s6 H5 m6 J6 ?_ hn6 q
   exact I3.fpOk (Nat.le_refl _) I6.free
  ·refine thn (T.item (blk X x fv scope cl s3.heap.objs.size s3 (upd H s2.heap.objs.size (.lst [])) fp) rfl rfl rfl hc i [] s5 _ H5 _ I5 (stat fr5) st5 go) fun r s6 ⟨u,hr,h6⟩=>?_
   subst hr
   refine thn h6 fun _ s7 ⟨v,H7,I7,r7,y7,st7,fr7⟩=>?_
   have I7':=I7.pinned (stat fr7) (T.obj _ _ st7)
   refine blk_store B I7' r7 fun s8 I8=>?_
   have e8:=he _ _ _ _ _ s8 _ H7 _ I8 (step v H7 y7)
   refine wpAny_mono e8 (fun y s9 ⟨yv,H9,I9,r9,ys,hD9,hz,n9⟩=>?_) fun _ _ z=>False.elim z
   have a9:=blk_tail (E':=E') T (fun _ _ z=>z) st7 I9 r9 hD9 hz n9 hN
   refine wpAny_mono a9 (fun _ s10 zz=>?_) fun _ _ z=>z
   obtain⟨m',hm,H10,I10,t10,f10,w9⟩:=zz
   exact⟨m',hm,i+1,H10,_,I10,t10,f10,w9⟩
 exact codeAny_compStart_list loop (T.self _ 0 _ _ _ st4 loop)
end
section
variable {X:Cx} {elt iter:Expr} {x:Str} {px:Pos} {fv:List (Nat×Str)} {scope:Scope} {cl:List (Str×Addr)} {pos:Pos} {te:TE} {wi:TI}
theorem pe_lcomp (hc:X.calm=true) (B:BlkOk X x fv scope cl) (hi:PI X (.Name x px) iter wi) (he:∀C s H fp,PE (blk X x fv scope cl C s H fp) elt te)
  (hs:∀v,foldedSetIterable iter X.env v=pure v:=by intro _;rfl):PE X (.ListComp elt [⟨.Name x px,iter,[],0⟩] scope pos) (tComp fv wi te):=by
 intro pins s σ H Q I h
 rw [eval_ListComp]
 refine wpAny_comprehension_free (use:=none) rfl hs B.clos B.kind B.names (thn (hi pins s σ H _ I h) fun v s1 h1=>thn h1 fun itv s2 h2=>?_)
 obtain⟨it,fp,tn,J,H2,e,I2,T,st2,f2,rd⟩:=h2
 subst e
 refine blk_run (RR:=fun acc C=>compPost (model X.prog X.w) X.A X.xe none (EP X pins σ Q) acc C) hc B he I2 T st2 f2 rd ?_
 intro D C s' H' m' I' fC hn q
 exact⟨m',hn,fun h' sb=>⟨.ref D,H',I'.turned (t':=s'.toks) (fun b o hb e=>(sb.2 b hb).trans e) fC.1 fC.2.1 fC.2.2.2.1 fC.2.2.2.2.1 fC.2.2.2.2.2,rfl,q⟩⟩
theorem ps_setC {i:Nat} {y:Str} {py spos:Pos} (hc:X.calm=true) (B:BlkOk X x fv scope cl) (hi:PI X (.Name x px) iter wi) (he:∀C s H fp,PE (blk X x fv scope cl C s H fp) elt te)
  (hN:X.N.Nodup) (hiy:X.N[i]?=some y) (hy:X.env.scope.names.lookup y=some .local)
  (hsw:swapsWith (.ListComp elt [⟨.Name x px,iter,[],0⟩] scope pos) (some (.Name y py)) spos.line X.env=pure true:=by rfl)
  (hs:∀v,foldedSetIterable iter X.env v=pure v:=by intro _;rfl):
  PS X (.Assign [.Name y py] (.ListComp elt [⟨.Name x px,iter,[],0⟩] scope pos) spos) (tAsg (tComp fv wi te) (gName i)):=by
 intro pins s σ H D I h
 rw [exec_Assign_Name_used _ _ _ _ hsw]
 refine wpAny_bind (wpAny_standAt (wpAny_bind ?_))
 show wpAny _ X.A (do let _ ← comprehension (.ListComp elt [⟨.Name x px,iter,[],0⟩] scope pos) scope X.env _ (newList []) false (eval iter X.env) (some (assign (.Name y py) X.env))) _ _ s
 refine wpAny_bind (wpAny_mono (wpAny_comprehension_free (use:=some (assign (.Name y py) X.env)) (Q:=fun _ s'=>SP X pins D .next s') rfl hs B.clos B.kind B.names
  (thn (hi pins s σ H _ I h) fun v s1 h1=>thn h1 fun itv s2 h2=>?_)) (fun _ s' hq=>wpAny_pure (wpAny_pure hq)) fun _ _ e=>e)
 obtain⟨it,fp,tn,J,H2,e,I2,T,st2,f2,rd⟩:=h2
 subst e
 refine blk_run (Q:=fun x H1=>gName i x σ H1 D.nx) (RR:=fun acc C=>compPost (model X.prog X.w) X.A X.xe (some (assign (.Name y py) X.env)) (fun _ s'=>SP X pins D .next s') acc C) hc B he I2 T st2 f2 rd ?_
 intro Dl C s' H' m' I' fC hn q
 show wpAny _ X.A (assign (.Name y py) X.env (.ref Dl)) _ _ _
 refine wpAny_assign_Name (store_ok2 I' hN hiy (.inl hy) (v:=.ref Dl) rfl (fun s'' I'' hab=>?_) (.inr hy))
 obtain⟨a,sb,ha⟩:=hab
 have hCa:C≠a:=by
  rcases ha with rfl | e
  ·exact fC.2.1
  ·exact Ne.symm (fC.2.2.2.2.1 _ _ e)
 exact⟨m',hn.sameBut sb hCa,fun h' sb'=>⟨_,H',I''.turned (t':=s''.toks) (fun b o hb e=>(sb'.2 b hb).trans e) fC.1 fC.2.1 fC.2.2.2.1 fC.2.2.2.2.1 fC.2.2.2.2.2,q⟩⟩
end
def Itrs (lo c:Int) (n:Nat):It:=⟨fun i _=>i < n,fun i H x H'=>H'=H∧x=.int (lo+i * c),fun i _=>n<=i⟩
theorem turn_ranges {P:Program} {w:World} {K:W.Frag} {tg:Expr} (it:Addr) (lo c:Int) (n:Nat):Turn P w K tg (Itrs lo c n) [it] it (fun i h=>IsRangeIter h it (lo+(i:Nat) * c) ((n:Int) - (i:Nat)) c) where
 mem:=by simp
 obj:=fun i h st b hb=>by
  have e:b=it:=by simpa using hb
  subst e
  exact⟨_,st,fun v z=>by
   have z':Data.fields _=Data.cell v:=z
   cases z'⟩
 keep:=fun i h h' st k=>k it (by simp) _ st
 item:=by
  intro X hP hw hK hc i pins s σ H E I hf st hg
  subst hP hw hK
  obtain⟨f0,f1,f2,f3,f4,f5⟩:=hf it (by simp)
  have W:=Walks.range (prog:=X.prog) (w:=X.w) (I.ok.hd hc) it lo c n
  refine W.item i s _ _ hg st fun v h' tk hv st' kk=>?_
  obtain⟨t,rfl⟩:=hv
  have I1:Inv X pins σ H { s with heap:=h',toks:=tk }:=I.turned (fun b o hb e=>kk b o (by simpa using hb) e) f0 f1 f3 f4 f5
  exact⟨_,rfl,go_of (s:={ s with heap:=h',toks:=tk }) (n := "range_iterator") st' rfl rfl (by decide) ⟨.int (lo+i * c),H,I1,⟨t,rfl⟩,⟨rfl,rfl⟩,st',fun b hb=>(hf b hb).1⟩⟩
 done:=by
  intro X hP hw hK hc i pins s σ H E I hf st hg
  subst hP hw hK
  obtain⟨f0,f1,f2,f3,f4,f5⟩:=hf it (by simp)
  exact wpAny_pyNext_range_end (I.ok.hd hc) st (by have:n<=i:=hg;omega) fun h' eb=>⟨rfl,I.turned (t':=s.toks) (fun b o hb e=>eb b o hb e) f0 f1 f3 f4 f5⟩
 self:=fun _ _ _ _ _ st h=>wpAny_pyIter_rangeiter st h
section
variable {X:Cx} {tg:Expr}
def iRng3 (ta:TA):TI:=fun σ H R=>ta σ H fun vs H1=>∃(i j k:Int) (n:Nat),vs=[.int i,.int j,.int k]∧k≠0∧k.natAbs < 1073741824∧Builtin.Range.small i j k=true∧Builtin.Range.rangeSize i j k=n∧R (Itrs i k n) H1
theorem pi_range3 {a b c:Expr} {ta:TA} {p pos:Pos} (hg:Gl X "range") (hm:X.mg "range" = none) (ha:PA X [a,b,c] ta) (hs:starEach [a,b,c] X.env=[(false,eval a X.env),(false,eval b X.env),(false,eval c X.env)]:=by rfl)
  (hs2:starEach [b,c] X.env=[(false,eval b X.env),(false,eval c X.env)]:=by rfl):PI X tg (.Call (.Name "range" p) [a,b,c] [] pos) (iRng3 ta):=by
 intro pins s σ H R I h
 refine Call_ (ld_blt I hg hm boot_range (PyProof.Rows.callWith_type1 (thn (ha pos pins s σ H _ I h) fun us s1 ⟨vs,H1,I1,r1,q1⟩=>?_) (by rw [hs,hs2]) (by rw [hs2];rfl)))
 obtain⟨i,j,k,n,e,hk,hk2,hsm,hn,q⟩:=q1
 subst e
 cases r1 with
 | cons r rr=>
  cases rr with
  | cons r' rr=>
   cases rr with
   | cons r'' rr=>
    cases rr
    obtain⟨t,rfl⟩:=r
    obtain⟨t',rfl⟩:=r'
    obtain⟨t'',rfl⟩:=r''
    refine call_range_3 hk ?_ (.inl (PyProof.noPylong_small hk2))
    refine wpAny_pyIter_range (IsRange.new ..) hsm ?_
    have I2:Inv X pins σ H1 { s1 with heap:=s1.heap.push { cls:=.type "range",data:=.fields #[.int i t,.int j t',.int k t''] },toks:=s1.toks }:=I1.kept fun b o e=>Heap.get?_push_of_some _ e
    refine⟨(s1.heap.push { cls:=.type "range",data:=.fields #[.int i t,.int j t',.int k t''] }).objs.size,[(s1.heap.push { cls:=.type "range",data:=.fields #[.int i t,.int j t',.int k t''] }).objs.size],_,_,H1,rfl,
     I2.kept (t':=s1.toks) fun b o e=>Heap.get?_push_of_some _ e,turn_ranges _ i k n,?_,fun b hb=>?_,q⟩
    ·have e1:i+((0:Nat):Int) * k=i:=by simp
     have e2:((n:Nat):Int) - ((0:Nat):Int)=Builtin.Range.rangeSize i j k:=by rw [hn];simp
     show IsRangeIter _ _ (i+((0:Nat):Int) * k) (((n:Nat):Int) - ((0:Nat):Int)) k
     rw [e1,e2]
     exact Heap.get?_push_size _ rfl
    ·have e:b=(s1.heap.push { cls:=.type "range",data:=.fields #[.int i t,.int j t',.int k t''] }).objs.size:=by simpa using hb
     subst e
     exact I2.fpOk (Nat.le_refl _) (I2.hok.fresh (Nat.le_refl _))
end
theorem for_ranges {lo c:Int} {n:Nat} {g:TG} {tb:TS} {D:Ends} {σ:St} {H:Hp} (Pv:Nat->St->Hp->Prop) (h0:Pv 0 σ H)
  (hs:∀i σ H,i < n->Pv i σ H->g (.int (lo+i * c)) σ H fun σ2 H2=>tb { D with nx:=Pv (i+1),ct:=Pv (i+1),bk:=D.nx } σ2 H2) (hd:∀σ H,Pv n σ H->D.nx σ H):
  ∃W:Nat->Nat->St->Hp->Prop,(∃m,W 0 m σ H)∧∀i m σ H,W i m σ H->
   ((Itrs lo c n).stop i H∧D.nx σ H)∨((Itrs lo c n).go i H∧∃N:St->Hp->Prop,(∀σ' H',N σ' H'->∃m',m' < m∧W (i+1) m' σ' H')∧∀x H',(Itrs lo c n).yld i H x H'->g x σ H' fun σ2 H2=>tb { D with nx:=N,ct:=N,bk:=D.nx } σ2 H2):=by
 refine⟨fun i m σ H=>m=n - i∧i<=n∧Pv i σ H,⟨n,by simp,Nat.zero_le _,h0⟩,?_⟩
 rintro i m σ H ⟨rfl,hi,p⟩
 by_cases hlt:i < n
 ·refine .inr ⟨hlt,Pv (i+1),fun σ' H' p'=>⟨n - (i+1),by omega,rfl,hlt,p'⟩,fun x H' y=>?_⟩
  obtain⟨e,y⟩:=y
  subst e y
  exact hs i σ _ hlt p
 ·have e:i=n:=by omega
  subst e
  exact .inl ⟨Nat.le_refl _,hd σ H p⟩
theorem comp_list {K:W.Frag} {a:Addr} {xs:List V} {fv:List (Nat×Str)} {te:TE} {Q:VK} {σ:St} {H1:Hp} {D:Addr} (Pv:Nat->Hp->Prop) (h0:Pv 0 (upd H1 D (.lst []))) (hl:∀i H,i<=xs.length->Pv i H->SqL K H a xs)
  (hs:∀i v H,xs[i]?=some v->Pv i H->te (bst fv σ (some v)) H fun y H2=>∃ys,H2 D=some (.lst ys)∧ys.length < sizeLine∧Pv (i+1) (upd H2 D (.lst (ys++[y])))) (hd:∀H,Pv xs.length H->Q (.ref D) H):
  ∃W:Nat->Nat->Hp->Prop,(∃m,W 0 m (upd H1 D (.lst [])))∧∀i m H,W i m H->
   ((Itl K a).stop i H∧Q (.ref D) H)∨((Itl K a).go i H∧∃N:Hp->Prop,(∀H',N H'->∃m',m' < m∧W (i+1) m' H')∧∀v H',(Itl K a).yld i H v H'->te (bst fv σ (some v)) H' fun y H2=>∃ys,H2 D=some (.lst ys)∧ys.length < sizeLine∧N (upd H2 D (.lst (ys++[y])))):=by
 refine⟨fun i m H=>m=xs.length - i∧i<=xs.length∧Pv i H,⟨xs.length,by simp,Nat.zero_le _,h0⟩,?_⟩
 rintro i m H ⟨rfl,hi,p⟩
 have q:=hl i H hi p
 by_cases hlt:i < xs.length
 ·refine .inr ⟨⟨xs,xs[i],q,List.getElem?_eq_getElem hlt⟩,Pv (i+1),fun H' p'=>⟨xs.length - (i+1),by omega,rfl,hlt,p'⟩,fun v H' y=>?_⟩
  obtain⟨e,y⟩:=y
  subst e
  exact hs i v _ (y xs q) p
 ·have e:i=xs.length:=by omega
  subst e
  exact .inl ⟨⟨xs,q,Nat.le_refl _⟩,hd H p⟩
theorem comp_range {lo:Int} {n:Nat} {fv:List (Nat×Str)} {te:TE} {Q:VK} {σ:St} {H1:Hp} {D:Addr} (Pv:Nat->Hp->Prop) (h0:Pv 0 (upd H1 D (.lst [])))
  (hs:∀i H,i < n->Pv i H->te (bst fv σ (some (.int (lo+i)))) H fun y H2=>∃ys,H2 D=some (.lst ys)∧ys.length < sizeLine∧Pv (i+1) (upd H2 D (.lst (ys++[y])))) (hd:∀H,Pv n H->Q (.ref D) H):
  ∃W:Nat->Nat->Hp->Prop,(∃m,W 0 m (upd H1 D (.lst [])))∧∀i m H,W i m H->
   ((Itr lo n).stop i H∧Q (.ref D) H)∨((Itr lo n).go i H∧∃N:Hp->Prop,(∀H',N H'->∃m',m' < m∧W (i+1) m' H')∧∀v H',(Itr lo n).yld i H v H'->te (bst fv σ (some v)) H' fun y H2=>∃ys,H2 D=some (.lst ys)∧ys.length < sizeLine∧N (upd H2 D (.lst (ys++[y])))):=by
 refine⟨fun i m H=>m=n - i∧i<=n∧Pv i H,⟨n,by simp,Nat.zero_le _,h0⟩,?_⟩
 rintro i m H ⟨rfl,hi,p⟩
 by_cases hlt:i < n
 ·refine .inr ⟨hlt,Pv (i+1),fun H' p'=>⟨n - (i+1),by omega,rfl,hlt,p'⟩,fun v H' y=>?_⟩
  obtain⟨e,y⟩:=y
  subst e y
  exact hs i _ hlt p
 ·have e:i=n:=by omega
  subst e
  exact .inl ⟨Nat.le_refl _,hd H p⟩
theorem sub_nil {cells:List (Str×Addr)}:∀y c,([]:List (Str×Addr)).lookup y=some c->cells.lookup y=some c:=fun _ _ h=>nomatch h
theorem sub_cons {n:Str} {c0:Addr} {r cells:List (Str×Addr)} (h0:cells.lookup n=some c0) (h:∀y c,r.lookup y=some c->cells.lookup y=some c):∀y c,((n,c0) :: r).lookup y=some c->cells.lookup y=some c:=fun y c q=>by
 rw [List.lookup_cons] at q
 cases e:y == n with
 | true=>
  rw [e] at q
  cases q
  rw [eq_of_beq e];exact h0
 | false=>
  rw [e] at q
  exact h y c q
theorem has_of {l:List (Str×NameKind)} {cl:List (Str×Addr)} (h:(l.all fun p=>(p.2 != .cell && p.2 != .free) || (cl.lookup p.1).isSome)=true):∀y,(l.lookup y=some .cell∨l.lookup y=some .free)->∃c,cl.lookup y=some c:=fun y hy=>by
 have key:∀k,l.lookup y=some k->(k=.cell∨k=.free)->∃c,cl.lookup y=some c:=fun k e hk=>by
  have q:=List.all_eq_true.mp h (y,k) (PySem.mem_of_lookup e)
  have z:(k != .cell && k != .free)=false:=by rcases hk with rfl | rfl <;> rfl
  rw [show ((y,k).2 != .cell && (y,k).2 != .free)=false from z,Bool.false_or] at q
  exact Option.isSome_iff_exists.mp q
 rcases hy with e | e
 ·exact key _ e (.inl rfl)
 ·exact key _ e (.inr rfl)
def FvOk (X:Cx) (x:Str) (scope:Scope) (cl:List (Str×Addr)) (fv:List (Nat×Str)):Prop:=
 ∀p∈fv,p.2≠x∧X.N[p.1]?=some p.2∧(X.env.scope.names.lookup p.2=some .cell∨X.env.scope.names.lookup p.2=some .free)∧
  ((relabel scope X.env).names.lookup p.2=some .cell∨(relabel scope X.env).names.lookup p.2=some .free)∧∃c,cl.lookup p.2=some c
theorem fv_nil {X:Cx} {x:Str} {scope:Scope} {cl:List (Str×Addr)}:FvOk X x scope cl []:=fun _ h=>nomatch h
theorem fv_cons {X:Cx} {x:Str} {scope:Scope} {cl:List (Str×Addr)} {fv:List (Nat×Str)} (i:Nat) (y:Str) (h1:y≠x) (h2:X.N[i]?=some y) (h3:X.env.scope.names.lookup y=some .cell∨X.env.scope.names.lookup y=some .free)
  (h4:(relabel scope X.env).names.lookup y=some .cell∨(relabel scope X.env).names.lookup y=some .free) (h5:∃c,cl.lookup y=some c) (r:FvOk X x scope cl fv):FvOk X x scope cl ((i,y) :: fv):=fun p hp=>by
 rcases List.mem_cons.mp hp with rfl | hp
 ·exact⟨h1,h2,h3,h4,h5⟩
 ·exact r p hp
theorem blkok {X:Cx} {x:Str} {fv:List (Nat×Str)} {scope:Scope} {cl:List (Str×Addr)} (clos:closureFor scope X.env=pure cl) (sub:∀y c,cl.lookup y=some c->X.env.cells.lookup y=some c) (fvs:FvOk X x scope cl fv)
  (kind:scope.kind=.function:=by rfl) (here:scope.names.lookup x=some .local:=by rfl) (nocell:∀y∈scope.names,y.2≠.cell:=by decide +kernel)
  (names:∀y∈scope.names,y.2=.local->scope.names.lookup y.1=some .local:=by decide +kernel)
  (has:((relabel scope X.env).names.all fun p=>(p.2 != .cell && p.2 != .free) || (cl.lookup p.1).isSome)=true:=by rfl):BlkOk X x fv scope cl:=
 ⟨clos,nocell,kind,names,here,sub,has_of has,fvs⟩
section
variable {X:Cx}
theorem call_isinst:CallR X (.builtin "isinstance") (fun xs H Q=>∃x n t b,xs=[x,.ty n]∧TyOf X.K H x t∧PySem.W.kitOne X.K t (.type n)=some b∧Q (.bl b) H):=by
 intro pins s σ H xs us Q I rv h
 obtain⟨x,n,t,b,rfl,ty,e,q⟩:=h
 cases rv with
 | cons r rr=>
  cases rr with
  | cons r' rr=>
   cases rr
   cases r'
   exact isinst_ok I r ty e fun tk=>⟨.bl b,H,I.tok _,rfl,q⟩
theorem mt_bitlen:MtR X "int.bit_length" (fun x xs H Q=>∃i,x=.int i∧xs=[]∧Q (.int (Builtin.Int.intBits i:Nat)) H):=by
 intro pins s σ H x xs v us Q I rx rv h
 obtain⟨i,rfl,rfl,q⟩:=h
 cases rv
 obtain⟨t,rfl⟩:=rx
 exact call_gives F.slot_int_bit_length (typeIs_int s i t) F.entry_int_bit_length (F.args_int_bit_length_1 _) (PySem.AutoIntG2.int_bit_length_int_0 i t) ⟨.int _,H,I.tok _,⟨_,rfl⟩,q⟩
end
theorem intBits_le_of {i:Int} {k:Nat} (h:i.natAbs < 2 ^ k):Builtin.Int.intBits i<=k:=by
 unfold Builtin.Int.intBits
 split
 ·exact Nat.zero_le _
 ·rename_i hz
  have hz':i≠0:=by simpa using hz
  have:i.natAbs.log2 < k:=(Nat.log2_lt (by omega)).mpr h
  omega
theorem mulOk_of {i j:Int} {k l:Nat} (h1:i.natAbs < 2 ^ k) (h2:j.natAbs < 2 ^ l) (h:k+l<=134217728):IntMulOk i j:=IntMulOk.of_le (intBits_le_of h1) (intBits_le_of h2) h
theorem op_fdivB {X:Cx}:OpR X (binaryOp .FloorDiv) (rI (fun _ j=>j≠0∧j.natAbs < 2 ^ 9000) fun i j=>.int (i.fdiv j)):=
 opI fun _ j _ _ _ _ _ hc q=>floordiv_int hc.1 q (.inl (PyProof.noPylong_of_log2 ((Nat.log2_lt (by have:=hc.1;omega)).mpr hc.2)))
section
variable {σ:St} {H:Hp} {Q:VK} {D:Ends} {t u:TS} {te ta tb tc to ti:TE} {tt:TT} {tA:TA} {i:Nat} {x y v:V} {r r':R2} {QT:Bool->Hp->Prop} {QA:List V->Hp->Prop}
theorem a_seq:tSeq t u D σ H=t { D with nx:=u D } σ H:=rfl
theorem a_next:tNext D σ H=D.nx σ H:=rfl
theorem a_brk:tBreak D σ H=D.bk σ H:=rfl
theorem a_cnt:tCont D σ H=D.ct σ H:=rfl
theorem a_drop:tDrop te D σ H=te σ H fun _ H1=>D.nx σ H1:=rfl
theorem a_ret:tRet te D σ H=te σ H D.rt:=rfl
theorem a_retN:tRetN D σ H=D.rt .non H:=rfl
theorem a_if:tIfS tt t u D σ H=tt σ H fun b H1=>if b=true then t D σ H1 else u D σ H1:=rfl
theorem a_asg {g:TG}:tAsg te g D σ H=te σ H fun x H1=>g x σ H1 D.nx:=rfl
theorem a_gname {Q:St->Hp->Prop}:gName i v σ H Q=Q (σ.set i (some v)) H:=rfl
theorem a_gsub {ts:TSet} {Q:St->Hp->Prop}:gSub to ti ts v σ H Q=to σ H fun o H1=>ti σ H1 fun i H2=>ts o i v H2 fun H3=>Q σ H3:=rfl
theorem a_gtup {K:W.Frag} {n:Nat} {ts:TGs} {Q:St->Hp->Prop}:gTup K n ts v σ H Q=∃a xs,v=.ref a∧SqT K H a xs∧xs.length=n∧ts xs σ H Q:=rfl
theorem a_gnil {vs:List V} {Q:St->Hp->Prop}:gNil vs σ H Q=(vs=[]∧Q σ H):=rfl
theorem a_gcons {g:TG} {gs:TGs} {vs:List V} {Q:St->Hp->Prop}:gCons g gs vs σ H Q=∃v r,vs=v :: r∧g v σ H fun σ' H'=>gs r σ' H' Q:=rfl
theorem a_aug {ip:TIp}:tAug i te ip D σ H=∃x,σ[i]?=some (some x)∧te σ H fun y H1=>ip x y H1 fun z H2=>D.nx (σ.set i (some z)) H2:=rfl
theorem a_augS {tget:V->V->Hp->VK->Prop} {tip:TIp} {tset:TSet}:tAugS to ti te tget tip tset D σ H=to σ H fun o H1=>ti σ H1 fun i H2=>tget o i H2 fun x H3=>te σ H3 fun y H4=>tip x y H4 fun z H5=>tset o i z H5 fun H6=>D.nx σ H6:=rfl
theorem a_ipI {f:Int->Int->Int}:ipI f x y H Q=∃i j,x=.int i∧y=.int j∧Q (.int (f i j)) H:=rfl
theorem a_var:tVar i σ H Q=∃v,σ[i]?=some (some v)∧Q v H:=rfl
theorem a_c:tC v σ H Q=Q v H:=rfl
theorem a_op:tOp r ta tb σ H Q=ta σ H fun x H1=>tb σ H1 fun y H2=>r x y H2 Q:=rfl
theorem a_un {r:V->Hp->VK->Prop}:tUn r ta σ H Q=ta σ H fun x H1=>r x H1 Q:=rfl
theorem a_rI {C:Int->Int->Prop} {g:Int->Int->V}:rI C g x y H Q=∃i j,x=.int i∧y=.int j∧C i j∧Q (g i j) H:=rfl
theorem a_rI0 {g:Int->Int->V}:rI0 g x y H Q=∃i j,x=.int i∧y=.int j∧Q (g i j) H:=rfl
theorem a_rU {g:Int->V}:rU g x H Q=∃i,x=.int i∧Q (g i) H:=rfl
theorem a_eqI {i j:Int}:rEq (.int i) (.int j) H Q=Q (.bl (decide (i=j))) H:=by
 show (true=true∧Q (.bl (decide (V.int i=V.int j))) H)=_
 rw [show decide (V.int i=V.int j)=decide (i=j) by rw [dec_int];exact Bool.beq_eq_decide_eq i j]
 simp
theorem a_neI {i j:Int}:rNe (.int i) (.int j) H Q=Q (.bl (!decide (i=j))) H:=by
 show (true=true∧Q (.bl (!decide (V.int i=V.int j))) H)=_
 rw [show decide (V.int i=V.int j)=decide (i=j) by rw [dec_int];exact Bool.beq_eq_decide_eq i j]
 simp
theorem a_eqB {i j:Bool}:rEq (.bl i) (.bl j) H Q=Q (.bl (decide (i=j))) H:=by
 show (true=true∧Q (.bl (decide (V.bl i=V.bl j))) H)=_
 cases i <;> cases j <;> simp
theorem a_neB {i j:Bool}:rNe (.bl i) (.bl j) H Q=Q (.bl (!decide (i=j))) H:=by
 show (true=true∧Q (.bl (!decide (V.bl i=V.bl j))) H)=_
 cases i <;> cases j <;> simp
theorem a_tB:tB te σ H QT=te σ H fun x H1=>∃c,x=.bl c∧QT c H1:=rfl
theorem a_test:tTest te σ H QT=te σ H fun x H'=>∃k,x=.bl k∧QT k H':=rfl
theorem a_and {tt':TT}:tAnd tt tt' σ H QT=tt σ H fun c H1=>if c=true then tt' σ H1 QT else QT false H1:=rfl
theorem a_or {tt':TT}:tOr tt tt' σ H QT=tt σ H fun c H1=>if c=true then QT true H1 else tt' σ H1 QT:=rfl
theorem a_not:tNot tt σ H QT=tt σ H fun c H1=>QT (!c) H1:=rfl
theorem a_andV:tAndV ta tb σ H Q=ta σ H fun x H1=>∃c,x=.bl c∧if c=true then tb σ H1 Q else Q (.bl false) H1:=rfl
theorem a_orV:tOrV ta tb σ H Q=ta σ H fun x H1=>∃c,x=.bl c∧if c=true then Q (.bl true) H1 else tb σ H1 Q:=rfl
theorem a_notV:tNotV ta σ H Q=ta σ H fun x H1=>∃c,x=.bl c∧Q (.bl (!c)) H1:=rfl
theorem a_ifE:tIf tt ta tb σ H Q=tt σ H fun c H1=>if c=true then ta σ H1 Q else tb σ H1 Q:=rfl
theorem a_chain:tChain r r' ta tb tc σ H Q=ta σ H fun x H1=>tb σ H1 fun y H2=>r x y H2 fun z H3=>∃k,z=.bl k∧(if k=true then tc σ H3 fun w' H4=>r' y w' H4 Q else Q (.bl false) H3):=rfl
theorem a_nil:tNil σ H QA=QA [] H:=rfl
theorem a_cons:tCons ta tA σ H QA=ta σ H fun x H1=>tA σ H1 fun xs H2=>QA (x :: xs) H2:=rfl
theorem a_lst:tLst tA σ H Q=tA σ H fun xs H1=>xs.length<=sizeLine∧∀p,H1 p=none->Q (.ref p) (upd H1 p (.lst xs)):=rfl
theorem a_tup:tTup tA σ H Q=tA σ H fun xs H1=>xs.length<=sizeLine∧∀p,H1 p=none->Q (.ref p) (upd H1 p (.tup xs)):=rfl
theorem a_call {sp:Sp} {dvs:List V} {E:XK}:tCall sp dvs E tA σ H Q=tA σ H fun vs H1=>sp (vs++dvs) H1 Q E:=rfl
theorem a_cb {r:List V->Hp->VK->Prop}:tCB r tA σ H Q=tA σ H fun vs H1=>r vs H1 Q:=rfl
theorem a_bm0 {K:W.Frag} {T:String} {r:V->List V->Hp->VK->Prop}:tBM0 K T r to σ H Q=to σ H fun x H1=>tyV K T x H1∧r x [] H1 Q:=rfl
theorem a_bm {K:W.Frag} {T:String} {r:V->List V->Hp->VK->Prop}:tBM K T r to tA σ H Q=to σ H fun x H1=>tyV K T x H1∧tA σ H1 fun xs H2=>r x xs H2 Q:=rfl
theorem a_sl {r:V->Option Int->Option Int->Hp->VK->Prop} {tl th:TO}:tSl r te tl th σ H Q=te σ H fun x H1=>tl σ H1 fun l H2=>th σ H2 fun u H3=>r x l u H3 Q:=rfl
theorem a_nopart {Q:Option Int->Hp->Prop}:tNoPart σ H Q=Q none H:=rfl
theorem a_part {Q:Option Int->Hp->Prop}:tPart te σ H Q=te σ H fun x H1=>∃i,x=.int i∧Q (some i) H1:=rfl
theorem a_tyI {K:W.Frag} {T:String} {i:Int}:tyV K T (.int i) H=(T = "int"):=rfl
theorem a_tyL {K:W.Frag} {p:Addr} {xs:List V} (h:SqL K H p xs):tyV K "list" (.ref p) H:=.inl ⟨rfl,xs,h⟩
end
def Loop (J:It) (g:TG) (tb:TS) (D:Ends) (σ:St) (H:Hp):Prop:=∃W:Nat->Nat->St->Hp->Prop,(∃m,W 0 m σ H)∧∀i m σ H,W i m σ H->
 (J.stop i H∧D.nx σ H)∨(J.go i H∧∃N:St->Hp->Prop,(∀σ' H',N σ' H'->∃m',m' < m∧W (i+1) m' σ' H')∧∀x H',J.yld i H x H'->g x σ H' fun σ2 H2=>tb { D with nx:=N,ct:=N,bk:=D.nx } σ2 H2)
theorem a_for {wi:TI} {g:TG} {tb:TS} {D:Ends} {σ:St} {H:Hp}:tFor wi g tb D σ H=wi σ H fun J H1=>Loop J g tb D σ H1:=rfl
def CLoop (J:It) (fv:List (Nat×Str)) (te:TE) (Q:VK) (σ:St) (H1:Hp) (D:Addr):Prop:=∃W:Nat->Nat->Hp->Prop,(∃m,W 0 m (upd H1 D (.lst [])))∧∀i m H,W i m H->
 (J.stop i H∧Q (.ref D) H)∨(J.go i H∧∃N:Hp->Prop,(∀H',N H'->∃m',m' < m∧W (i+1) m' H')∧∀v H',J.yld i H v H'->te (bst fv σ (some v)) H' fun y H2=>∃ys,H2 D=some (.lst ys)∧ys.length < sizeLine∧N (upd H2 D (.lst (ys++[y]))))
theorem a_comp {fv:List (Nat×Str)} {wi:TI} {te:TE} {σ:St} {H:Hp} {Q:VK}:tComp fv wi te σ H Q=wi σ H fun J H1=>∀D,H1 D=none->CLoop J fv te Q σ H1 D:=rfl
theorem a_ilist {K:W.Frag} {tl:TE} {σ:St} {H:Hp} {R:It->Hp->Prop}:iList K tl σ H R=tl σ H fun x H1=>∃a,x=.ref a∧(∃xs,SqL K H1 a xs)∧R (Itl K a) H1:=rfl
theorem a_itup {K:W.Frag} {tl:TE} {σ:St} {H:Hp} {R:It->Hp->Prop}:iTup K tl σ H R=tl σ H fun x H1=>∃a,x=.ref a∧(∃xs,SqT K H1 a xs)∧R (Itt K a) H1:=rfl
theorem a_irng1 {ta:TA} {σ:St} {H:Hp} {R:It->Hp->Prop}:iRng1 ta σ H R=ta σ H fun vs H1=>∃j:Int,vs=[.int j]∧-(2 ^ 62)<=j∧j < 2 ^ 62∧R (Itr 0 j.toNat) H1:=rfl
theorem a_irng2 {ta:TA} {σ:St} {H:Hp} {R:It->Hp->Prop}:iRng2 ta σ H R=ta σ H fun vs H1=>∃i j:Int,vs=[.int i,.int j]∧(-(2 ^ 62)<=i∧i < 2 ^ 62∧-(2 ^ 62)<=j∧j < 2 ^ 62)∧R (Itr i (j - i).toNat) H1:=rfl
theorem a_irng3 {ta:TA} {σ:St} {H:Hp} {R:It->Hp->Prop}:iRng3 ta σ H R=ta σ H fun vs H1=>∃(i j k:Int) (n:Nat),vs=[.int i,.int j,.int k]∧k≠0∧k.natAbs < 1073741824∧Builtin.Range.small i j k=true∧Builtin.Range.rangeSize i j k=n∧R (Itrs i k n) H1:=rfl
theorem while_of {c:TT} {tb:TS} {D:Ends} {σ:St} {H:Hp} (Pv:Nat->St->Hp->Prop) (m:Nat) (h0:Pv m σ H)
  (hs:∀m σ H,Pv m σ H->c σ H fun b H1=>if b=true then ∃N:St->Hp->Prop,(∀σ' H',N σ' H'->∃m',m' < m∧Pv m' σ' H')∧tb { D with nx:=N,ct:=N,bk:=D.nx } σ H1 else D.nx σ H1):tWhile c tb D σ H:=⟨Pv,⟨m,h0⟩,hs⟩
section
variable {σ:St} {H:Hp} {Q:VK} {x y v:V} {K:W.Frag}
theorem a_rslL {lo hi:Option Int}:rSlL K x lo hi H Q=∃a xs,x=.ref a∧SqL K H a xs∧∀p,H p=none->Q (.ref p) (upd H p (.lst (cutV xs lo hi))):=rfl
theorem a_ixL:rIxL K x y H Q=∃p xs i v,x=.ref p∧y=.int i∧SqL K H p xs∧atI xs i=some v∧Q v H:=rfl
theorem a_ixT:rIxT K x y H Q=∃p xs i v,x=.ref p∧y=.int i∧SqT K H p xs∧atI xs i=some v∧Q v H:=rfl
theorem a_setL {Q:Hp->Prop}:rSetL x y v H Q=∃p xs k j,x=.ref p∧y=.int k∧H p=some (.lst xs)∧ixN xs.length k=some j∧Q (upd H p (.lst (xs.set j v))):=rfl
theorem a_app {vs:List V}:rAppend x vs H Q=∃l xs y,x=.ref l∧vs=[y]∧H l=some (.lst xs)∧xs.length < sizeLine∧Q .non (upd H l (.lst (xs++[y]))):=rfl
theorem cutV_map (ns:List Int) (lo hi:Option Int):cutV (ns.map V.int) lo hi=((ns.drop (HT.sIx ns.length 0 lo)).take (HT.sIx ns.length ns.length hi - HT.sIx ns.length 0 lo)).map V.int:=by
 unfold cutV
 rw [List.length_map,List.map_take,List.map_drop]
end
theorem bt_len:bootBuiltins "len" = some (.builtin "len"):=by decide +kernel
theorem bt_abs:bootBuiltins "abs" = some (.builtin "abs"):=by decide +kernel
theorem bt_isinstance:bootBuiltins "isinstance" = some (.builtin "isinstance"):=by decide +kernel
theorem bt_min:bootBuiltins "min" = some (.builtin "min"):=by decide +kernel
theorem bt_max:bootBuiltins "max" = some (.builtin "max"):=by decide +kernel
theorem bt_bool:bootBuiltins "bool" = some (.type "bool"):=by decide +kernel
theorem bt_list:bootBuiltins "list" = some (.type "list"):=by decide +kernel
theorem bt_ValueError:bootBuiltins "ValueError" = some (.type "ValueError"):=by decide +kernel
def tMid (t u:TS):TS:=fun D σ H=>∃M:St->Hp->Prop,t { D with nx:=M } σ H∧∀σ' H',M σ' H'->u D σ' H'
theorem pss_mid {X:Cx} {st:Stmt} {rest:List Stmt} {t u:TS} (h1:PS X st t) (h2:PSs X rest u):PSs X (st :: rest) (tMid t u):=by
 intro pins s σ H D I h
 obtain⟨M,h,hM⟩:=h
 refine wpAny_execs_cons (thn (h1 pins s σ H { D with nx:=M } I h) fun f s1 q=>?_)
 cases f with
 | next=>
  obtain⟨σ',H',I',q⟩:=q
  exact h2 pins s1 σ' H' D I' (hM σ' H' q)
 | ret v=>exact q
 | brk=>exact q
 | cont=>exact q
theorem mid_of {t u:TS} {D:Ends} {σ:St} {H:Hp} (M:St->Hp->Prop) (h1:t { D with nx:=M } σ H) (h2:∀σ' H',M σ' H'->u D σ' H'):tMid t u D σ H:=⟨M,h1,h2⟩
theorem a_cxK {CX:CXT} {P:Program} {w:World} {K:W.Frag} {mg:Str->Option Value} {base:Heap} {N:List Str} {qual:Str} {scope:Scope} {f:Addr} {cd:Value} {A:Around} {outer:List Env} {s:Shared} {H:Hp} {E:XK}:
  (cxOf CX P w K mg base N qual scope f cd A outer s H E).K=K:=rfl
section
variable {K:W.Frag} {a:Addr} {xs:List V} {g:TG} {tb:TS} {D:Ends} {σ:St} {H H1:Hp} {fv:List (Nat×Str)} {te:TE} {Q:VK} {L:Addr} {lo c:Int} {n:Nat}
theorem cl_list (Pv:Nat->Hp->Prop) (h0:Pv 0 (upd H1 L (.lst []))) (hl:∀i H,i<=xs.length->Pv i H->SqL K H a xs)
  (hs:∀i v H,xs[i]?=some v->Pv i H->te (bst fv σ (some v)) H fun y H2=>∃ys,H2 L=some (.lst ys)∧ys.length < sizeLine∧Pv (i+1) (upd H2 L (.lst (ys++[y])))) (hd:∀H,Pv xs.length H->Q (.ref L) H):
  CLoop (Itl K a) fv te Q σ H1 L:=comp_list Pv h0 hl hs hd
theorem cl_range (Pv:Nat->Hp->Prop) (h0:Pv 0 (upd H1 L (.lst [])))
  (hs:∀i H,i < n->Pv i H->te (bst fv σ (some (.int (lo+i)))) H fun y H2=>∃ys,H2 L=some (.lst ys)∧ys.length < sizeLine∧Pv (i+1) (upd H2 L (.lst (ys++[y])))) (hd:∀H,Pv n H->Q (.ref L) H):
  CLoop (Itr lo n) fv te Q σ H1 L:=comp_range Pv h0 hs hd
theorem lp_list (Pv:Nat->St->Hp->Prop) (h0:Pv 0 σ H) (hl:∀i σ H,i<=xs.length->Pv i σ H->SqL K H a xs)
  (hs:∀i v σ H,xs[i]?=some v->Pv i σ H->g v σ H fun σ2 H2=>tb { D with nx:=Pv (i+1),ct:=Pv (i+1),bk:=D.nx } σ2 H2) (hd:∀σ H,Pv xs.length σ H->D.nx σ H):Loop (Itl K a) g tb D σ H:=for_list Pv h0 hl hs hd
theorem lp_range (Pv:Nat->St->Hp->Prop) (h0:Pv 0 σ H)
  (hs:∀i σ H,i < n->Pv i σ H->g (.int (lo+i)) σ H fun σ2 H2=>tb { D with nx:=Pv (i+1),ct:=Pv (i+1),bk:=D.nx } σ2 H2) (hd:∀σ H,Pv n σ H->D.nx σ H):Loop (Itr lo n) g tb D σ H:=for_range Pv h0 hs hd
theorem lp_ranges (Pv:Nat->St->Hp->Prop) (h0:Pv 0 σ H)
  (hs:∀i σ H,i < n->Pv i σ H->g (.int (lo+i * c)) σ H fun σ2 H2=>tb { D with nx:=Pv (i+1),ct:=Pv (i+1),bk:=D.nx } σ2 H2) (hd:∀σ H,Pv n σ H->D.nx σ H):Loop (Itrs lo c n) g tb D σ H:=for_ranges Pv h0 hs hd
end
theorem small_two {j:Int} (h0:0<=j) (h1:j < 2 ^ 60):Builtin.Range.small 0 j 2=true:=by
 unfold Builtin.Range.small
 simp only [Builtin.Range.rangeFitsLong,Builtin.Range.rangeSize,Bool.and_eq_true,Bool.or_eq_true,decide_eq_true_eq,beq_iff_eq,show (2:Int) > 0 by decide,if_true]
 split <;> omega
section
variable {X:Cx}
theorem get_list:PGet X (rIxL X.K):=by
 intro pins s σ H o i ov iv Q I ro ri h
 obtain⟨p,xs,i,z,rfl,rfl,hq,he,q⟩:=h
 cases ro
 obtain⟨t,rfl⟩:=ri
 obtain⟨its,r,pl,hz⟩:=I.list hq
 obtain⟨j,h1,h2,h3,h4,h5⟩:=atI_get he
 obtain⟨w,ew,rw'⟩:=r.get h2
 have hl:=r.length
 have hn:=line63
 have fin:EP X pins σ Q w s:=⟨z,H,I,rw',q⟩
 by_cases h0:0<=i
 ·have hj:i.toNat=j:=by
   rw [seqIndex_of h0 h5] at h1
   exact Option.some.inj h1
  exact wpAny_getItem_list pl.isList h0 (by omega) (by rw [hj];simpa using ew) fin
 ·have hj:(i+(its.toArray.size:Int)).toNat=j:=by
   rw [seqIndex_neg (by omega) h4] at h1
   rw [List.size_toArray,← hl]
   exact Option.some.inj h1
  exact wpAny_getItem_list_neg pl.isList (by omega) (by rw [List.size_toArray] <;> omega) (by omega) (by rw [hj];simpa using ew) fin
mutual
inductive DV (K:W.Frag) (H:Hp):V->PyData->Prop
 | non:DV K H .non .none
 | bl (b):DV K H (.bl b) (.bool b)
 | int (i):DV K H (.int i) (.int i)
 | str (x):DV K H (.str x) (.str x)
 | lst {a xs ds}:SqL K H a xs->DVs K H xs ds->DV K H (.ref a) (.list ds)
 | tup {a xs ds}:SqT K H a xs->DVs K H xs ds->DV K H (.ref a) (.tuple ds)
inductive DVs (K:W.Frag) (H:Hp):List V->List PyData->Prop
 | nil:DVs K H [] []
 | cons {x xs d ds}:DV K H x d->DVs K H xs ds->DVs K H (x :: xs) (d :: ds)
end
theorem DVs.ints {K:W.Frag} {H:Hp}:∀ns:List Int,DVs K H (ns.map V.int) (ns.map PyData.int)
 | []=>.nil
 | n :: r=>.cons (.int n) (DVs.ints r)
theorem DV.ints {K:W.Frag} {H:Hp} {a:Addr} {ns:List Int} (h:SqL K H a (ns.map V.int)):DV K H (.ref a) (.list (ns.map PyData.int)):=.lst h (DVs.ints ns)
mutual
theorem DV.reads {pins:List (Addr×Obj)} {σ:St} {H:Hp} {s:Shared} (I:Inv X pins σ H s):∀{x:V} {d:PyData} {v:Value},DV X.K H x d->RelV x v->∃as,Reads s.heap v d as
 | _,_,_,.non,r=>by cases r;exact⟨_,.none⟩
 | _,_,_,.bl b,r=>by cases r;exact⟨_,.bool b⟩
 | _,_,_,.int i,r=>by obtain⟨t,rfl⟩:=r;exact⟨_,.int i t⟩
 | _,_,_,.str x,r=>by obtain⟨t,rfl⟩:=r;exact⟨_,.str x t⟩
 | _,_,_,.lst hq hs,r=>by
  cases r
  obtain⟨its,rv,⟨o,n,e,c,_,hd⟩,_⟩:=I.list hq
  obtain⟨as,ra⟩:=DVs.reads I hs rv
  exact⟨_,.list e c hd (by simpa using ra)⟩
 | _,_,_,.tup hq hs,r=>by
  cases r
  obtain⟨its,rv,⟨o,e,c,n,hd⟩,_⟩:=I.tuple hq
  obtain⟨as,ra⟩:=DVs.reads I hs rv
  exact⟨_,.tuple e c hd (by simpa using ra)⟩
theorem DVs.reads {pins:List (Addr×Obj)} {σ:St} {H:Hp} {s:Shared} (I:Inv X pins σ H s):∀{xs:List V} {ds:List PyData} {vs:List Value},DVs X.K H xs ds->Vals xs vs->∃as,ReadsAll s.heap vs ds as
 | _,_,_,.nil,r=>by cases r;exact⟨_,.nil⟩
 | _,_,_,.cons h t,r=>by
  cases r with
  | cons r1 r2=>
   obtain⟨as,ra⟩:=DV.reads I h r1
   obtain⟨bs,rb⟩:=DVs.reads I t r2
   exact⟨_,.cons ra rb⟩
end
theorem op_eqD (hu:X.A.units+64 < cLine):OpR X (compareOp .Eq) (fun x y H Q=>∃da db,DV X.K H x da∧DV X.K H y db∧da.canLay0=true∧db.canLay0=true∧da.depth<=64∧Q (.bl (PyData.eqv da db)) H):=by
 intro pins s σ H x y v u Q I rx ry h
 obtain⟨da,db,hx,hy,c1,c2,hd,q⟩:=h
 obtain⟨as,ra⟩:=hx.reads I rx
 obtain⟨bs,rb⟩:=hy.reads I ry
 exact PySem.SeqAt.eqOverData _ _ _ _ _ _ _ _ _ _ _ _ ra rb c1 c2 (by omega) ⟨.bl _,H,I,rfl,q⟩
theorem op_neD (hu:X.A.units+64 < cLine):OpR X (compareOp .NotEq) (fun x y H Q=>∃da db,DV X.K H x da∧DV X.K H y db∧da.canLay0=true∧db.canLay0=true∧da.depth<=64∧Q (.bl (!PyData.eqv da db)) H):=by
 intro pins s σ H x y v u Q I rx ry h
 obtain⟨da,db,hx,hy,c1,c2,hd,q⟩:=h
 obtain⟨as,ra⟩:=hx.reads I rx
 obtain⟨bs,rb⟩:=hy.reads I ry
 exact PySem.SeqAt.neOverData _ _ _ _ _ _ _ _ _ _ _ _ ra rb c1 c2 (by omega) ⟨.bl _,H,I,rfl,q⟩
end
theorem eqvAll_ints:∀xs ys:List Int,PyData.eqvAll (xs.map PyData.int) (ys.map PyData.int)=decide (xs=ys)
 | [],[]=>by simp [PyData.eqvAll]
 | [],_ :: _=>by simp [PyData.eqvAll]
 | _ :: _,[]=>by simp [PyData.eqvAll]
 | x :: xs,y :: ys=>by
  have ih:=eqvAll_ints xs ys
  simp only [List.map_cons,PyData.eqvAll,PyData.eqv,ih]
  by_cases h:x=y
  ·subst h;simp
  ·simp [h]
theorem lay_ints:∀xs:List Int,PyData.canLayAll0 (xs.map PyData.int)=true
 | []=>rfl
 | _ :: r=>by simp [PyData.canLayAll0,PyData.canLay0,lay_ints r]
theorem depth_ints:∀xs:List Int,PyData.depthAll (xs.map PyData.int)=0
 | []=>rfl
 | _ :: r=>by simp [PyData.depthAll,PyData.depth,depth_ints r]
def Ite (K:W.Frag) (a:Addr):It:=
 ⟨fun i H=>∃xs x,SqL K H a xs∧xs[i]?=some x,fun i H v H'=>∃p x,H p=none∧v=.ref p∧H'=upd H p (.tup [.int i,x])∧∀xs,SqL K H a xs->xs[i]?=some x,fun i H=>∃xs,SqL K H a xs∧xs.length<=i⟩
section
variable {X:Cx}
def iEnum (K:W.Frag) (ta:TA):TI:=fun σ H R=>ta σ H fun vs H1=>∃a xs,vs=[.ref a]∧SqL K H1 a xs∧R (Ite K a) H1
end
theorem a_ienum {K:W.Frag} {ta:TA} {σ:St} {H:Hp} {R:It->Hp->Prop}:iEnum K ta σ H R=ta σ H fun vs H1=>∃a xs,vs=[.ref a]∧SqL K H1 a xs∧R (Ite K a) H1:=rfl
def Itv (K:W.Frag) (a:Addr) (n:Nat):It:=
 ⟨fun i H=>i < n∧∃xs,SqL K H a xs∧xs.length=n,fun i H x H'=>H'=H∧∀xs,SqL K H a xs->xs[n - 1 - i]?=some x,fun i _=>i=n⟩
theorem turn_rev {P:Program} {w:World} {K:W.Frag} {tg:Expr} (a it:Addr) (n:Nat):Turn P w K tg (Itv K a n) [it] it (fun i h=>h.IsRevIter it a ((n:Int) - 1 - i)) where
 mem:=by simp
 obj:=fun i h st b hb=>by
  have e:b=it:=by simpa using hb
  subst e
  obtain⟨o,e,c,d⟩:=st
  exact⟨o,e,fun v z=>by rw [d] at z;cases z⟩
 keep:=fun i h h' st k=>st.at fun o e=>k it (by simp) o e
 item:=by
  intro X hP hw hK hc i pins s σ H E I hf st hg
  subst hP hw hK
  obtain⟨hi,xs,hq,hn⟩:=hg
  obtain⟨its,rv,p,hz⟩:=I.list hq
  have hx:xs[n - 1 - i]?=some (xs[n - 1 - i]'(by omega)):=List.getElem?_eq_getElem (by omega)
  obtain⟨u,hu,ru⟩:=rv.get hx
  obtain⟨f0,f1,f2,f3,f4,f5⟩:=hf it (by simp)
  have e0:(n:Int) - 1 - i=((n - 1 - i:Nat):Int):=by omega
  rw [e0] at st
  refine wpAny_pyNext_rev_item st p.isList (x:=u) (by simpa using hu) fun h' st' sb=>?_
  have I1:Inv X pins σ H { s with heap:=h' }:=I.turned (t':=s.toks) (fun b o hb e=>(sb.2 b hb).trans e) f0 f1 f3 f4 f5
  have e1:((n - 1 - i:Nat):Int) - 1=(n:Int) - 1 - ((i+1:Nat):Int):=by omega
  rw [e1] at st'
  obtain⟨o,e,c,d⟩:=id st'
  exact⟨u,rfl,go_of (s:={ s with heap:=h' }) e c d (by decide) ⟨_,H,I1,ru,⟨rfl,fun ys hy=>by rw [I.list_inj hy hq];exact hx⟩,st',fun b hb=>(hf b hb).1⟩⟩
 done:=by
  intro X hP hw hK hc i pins s σ H E I hf st hg
  subst hP hw hK
  obtain⟨f0,f1,f2,f3,f4,f5⟩:=hf it (by simp)
  have e0:(n:Int) - 1 - i=-1:=by have:i=n:=hg;omega
  rw [e0] at st
  exact wpAny_pyNext_rev_end (I.ok.hd hc) st fun h' eb=>⟨rfl,I.turned (t':=s.toks) (fun b o hb e=>eb b o hb e) f0 f1 f3 f4 f5⟩
 self:=fun _ _ _ _ _ st h=>wpAny_pyIter_revIter st h
section
variable {X:Cx} {tg:Expr}
def iRev (K:W.Frag) (ta:TA):TI:=fun σ H R=>ta σ H fun vs H1=>∃a xs,vs=[.ref a]∧SqL K H1 a xs∧R (Itv K a xs.length) H1
theorem pi_rev {a:Expr} {ta:TA} {p pos:Pos} (hg:Gl X "reversed") (hm:X.mg "reversed" = none) (ha:PA X [a] ta) (hs:starEach [a] X.env=[(false,eval a X.env)]:=by rfl):
  PI X tg (.Call (.Name "reversed" p) [a] [] pos) (iRev X.K ta):=by
 intro pins s σ H R I h
 refine Call_ (ld_blt I hg hm boot_reversed (PyProof.Rows.callWith_type1 (thn (ha pos pins s σ H _ I h) fun us s1 ⟨vs,H1,I1,r1,q1⟩=>?_) hs rfl))
 obtain⟨a,xs,e,hq,q⟩:=q1
 subst e
 cases r1 with
 | cons r rr=>
  cases rr
  cases r
  obtain⟨its,rv,pl,hz⟩:=I1.list hq
  have hl:=rv.length
  refine call_reversed_list pl.isList ?_
  have I2:Inv X pins σ H1 { s1 with heap:=s1.heap.push (revObj a ((its.toArray.size:Int) - 1)) }:=I1.kept (t':=s1.toks) fun b o e=>Heap.get?_push_of_some _ e
  have st:(s1.heap.push (revObj a ((its.toArray.size:Int) - 1))).IsRevIter s1.heap.objs.size a ((xs.length:Int) - 1 - ((0:Nat):Int)):=by
   have e1:(xs.length:Int) - 1 - ((0:Nat):Int)=(its.toArray.size:Int) - 1:=by rw [List.size_toArray,hl];simp
   rw [e1]
   exact⟨_,Heap.get?_push_size _ rfl,rfl,rfl⟩
  refine wpAny_pyIter_revIter st ?_
  refine⟨s1.heap.objs.size,[s1.heap.objs.size],_,_,H1,rfl,I2,turn_rev a _ xs.length,st,fun b hb=>?_,q⟩
  have e:b=s1.heap.objs.size:=by simpa using hb
  subst e
  exact I1.fpOk (Nat.le_refl _) (I1.hok.fresh (Nat.le_refl _))
end
theorem a_irev {K:W.Frag} {ta:TA} {σ:St} {H:Hp} {R:It->Hp->Prop}:iRev K ta σ H R=ta σ H fun vs H1=>∃a xs,vs=[.ref a]∧SqL K H1 a xs∧R (Itv K a xs.length) H1:=rfl
theorem lp_rev {K:W.Frag} {a:Addr} {xs:List V} {g:TG} {tb:TS} {D:Ends} {σ:St} {H:Hp} (Pv:Nat->St->Hp->Prop) (h0:Pv 0 σ H) (hl:∀i σ H,i<=xs.length->Pv i σ H->SqL K H a xs)
  (hs:∀i v σ H,i < xs.length->xs[xs.length - 1 - i]?=some v->Pv i σ H->g v σ H fun σ2 H2=>tb { D with nx:=Pv (i+1),ct:=Pv (i+1),bk:=D.nx } σ2 H2) (hd:∀σ H,Pv xs.length σ H->D.nx σ H):Loop (Itv K a xs.length) g tb D σ H:=by
 refine⟨fun i m σ H=>m=xs.length - i∧i<=xs.length∧Pv i σ H,⟨xs.length,by simp,Nat.zero_le _,h0⟩,?_⟩
 rintro i m σ H ⟨rfl,hi,p⟩
 have q:=hl i σ H hi p
 by_cases hlt:i < xs.length
 ·refine .inr ⟨⟨hlt,xs,q,rfl⟩,Pv (i+1),fun σ' H' p'=>⟨xs.length - (i+1),by omega,rfl,hlt,p'⟩,fun x H' y=>?_⟩
  obtain⟨e,y⟩:=y
  subst e
  exact hs i x σ _ hlt (y xs q) p
 ·have e:i=xs.length:=by omega
  subst e
  exact .inl ⟨rfl,hd σ H p⟩
section
variable {σ:St} {H:Hp} {Q:VK} {x y v:V} {vs:List V}
theorem a_cat:rCat x y H Q=∃l b xs zs,x=.ref l∧y=.ref b∧H l=some (.lst xs)∧H b=some (.lst zs)∧xs.length+zs.length<=sizeLine∧∀p,H p=none->Q (.ref p) (upd H p (.lst (xs++zs))):=rfl
theorem a_rep:rRep x y H Q=∃l k xs,x=.ref l∧y=.int k∧H l=some (.lst xs)∧-(2 ^ 63)<=k∧k < 2 ^ 63∧xs.length * k.toNat<=sizeLine∧∀p,H p=none->Q (.ref p) (upd H p (.lst (List.replicate k.toNat xs).flatten)):=rfl
theorem a_pop:rPop x vs H Q=∃l xs y,x=.ref l∧vs=[]∧H l=some (.lst xs)∧xs[xs.length - 1]?=some y∧Q y (upd H l (.lst xs.dropLast)):=rfl
theorem a_clear:rClear x vs H Q=∃l xs,x=.ref l∧vs=[]∧H l=some (.lst xs)∧Q .non (upd H l (.lst [])):=rfl
end
theorem op_mulZ {X:Cx}:OpR X (binaryOp .Mult) (rI IntMulOk fun i j=>.int (i * j)):=opI fun _ _ _ _ _ _ _ hc q=>mul_int q hc
def Bd (k:Nat) (x:Int):Prop:=x.natAbs < 2 ^ k
theorem Bd.mono {k l:Nat} {x:Int} (h:Bd k x) (hl:k<=l):Bd l x:=Nat.lt_of_lt_of_le h (Nat.pow_le_pow_right (by decide) hl)
theorem Bd.zero (k:Nat):Bd k 0:=Nat.two_pow_pos k
theorem Bd.one {k:Nat} (h:0 < k):Bd k 1:=by
 have:Bd 1 1:=by show (1:Nat) < 2 ^ 1;decide
 exact this.mono h
theorem Bd.neg {k:Nat} {x:Int} (h:Bd k x):Bd k (-x):=by unfold Bd;rw [Int.natAbs_neg];exact h
theorem Bd.mul {k l:Nat} {x y:Int} (h:Bd k x) (g:Bd l y):Bd (k+l) (x * y):=by
 unfold Bd at *
 rw [Int.natAbs_mul,Nat.pow_add]
 exact Nat.mul_lt_mul_of_lt_of_lt h g
theorem Bd.add {k:Nat} {x y:Int} (h:Bd k x) (g:Bd k y):Bd (k+1) (x+y):=by
 unfold Bd at *
 rw [Nat.pow_succ]
 have:=Int.natAbs_add_le x y
 omega
theorem Bd.fits {k l:Nat} {x y:Int} (h:Bd k x) (g:Bd l y) (hz:k+l<=134217728):IntMulOk x y:=mulOk_of h g hz
theorem Bd.of_lt {k:Nat} {x:Int} {m:Nat} (h:x.natAbs < m) (hm:m<=2 ^ k):Bd k x:=Nat.lt_of_lt_of_le h hm
def newL (H:Hp) (Q:VK) (ys:List V):Prop:=∀r H',Same H H'->H r=none->H' r=some (.lst ys)->Q (.ref r) H'
theorem same_upd {H:Hp} {p:Addr} (h:H p=none) (o:HO):Same H (upd H p o):=fun b u q=>by rw [upd_ne (ne_of_none q h)];exact q
theorem Same.seqT {K:W.Frag} {H H':Hp} {a:Addr} {xs:List V} (e:Same H H') (h:SqT K H a xs):SqT K H' a xs:=by
 rcases h with (h | ⟨o,h⟩) | h
 ·exact .inl (.inl (e _ _ h))
 ·exact .inl (.inr ⟨o,e _ _ h⟩)
 ·exact .inr h
theorem at_int {xs:List Int} {i:Nat} (h:i < xs.length):atI (xs.map V.int) (i:Int)=some (V.int xs[i]):=atI_nat (by rw [List.getElem?_map,List.getElem?_eq_getElem h];rfl)
theorem ixN_nat {n i:Nat} (h:i < n):ixN n (i:Int)=some i:=by
 unfold ixN
 rw [if_pos (by omega),if_pos (by omega)];simp
theorem ixN_neg {n i:Nat} (h:0 < i) (h2:i<=n):ixN n (-(i:Int))=some (n - i):=by
 unfold ixN
 rw [if_neg (by omega),if_pos (by omega)]
 congr 1
 omega
theorem at_last {xs:List Int} (h:xs≠[]):atI (xs.map V.int) (-1)=some (V.int (xs.getLast h)):=by
 unfold atI
 have h0:0 < xs.length:=by cases xs with | nil=>exact absurd rfl h | cons _ _=>simp
 have e:=ixN_neg (n:=(xs.map V.int).length) (i:=1) (by decide) (by rw [List.length_map];exact h0)
 have e1:(-((1:Nat):Int))=-1:=rfl
 rw [e1] at e
 rw [e]
 show (xs.map V.int)[(xs.map V.int).length - 1]?=_
 rw [List.getElem?_map,List.length_map,← List.getLast?_eq_getElem?,List.getLast?_eq_some_getLast h];rfl
theorem map_set (xs:List Int) (i:Nat) (v:Int):(xs.map V.int).set i (V.int v)=(xs.set i v).map V.int:=by rw [List.map_set]
theorem small_down {i j:Int} (h1:-(2 ^ 60) < i) (h2:i < 2 ^ 60) (h3:-(2 ^ 60) < j) (h4:j < 2 ^ 60):Builtin.Range.small i j (-1)=true:=by
 unfold Builtin.Range.small
 simp only [Builtin.Range.rangeFitsLong,Builtin.Range.rangeSize,Bool.and_eq_true,Bool.or_eq_true,decide_eq_true_eq,beq_iff_eq,show ¬(-1:Int) > 0 by decide,if_false,Int.neg_neg,Int.ediv_one]
 split <;> omega
theorem size_down {i j:Int} {n:Nat} (h:(i - j).toNat=n):Builtin.Range.rangeSize i j (-1)=n:=by
 unfold Builtin.Range.rangeSize
 simp only [show ¬(-1:Int) > 0 by decide,if_false,Int.neg_neg,Int.ediv_one]
 split <;> omega
theorem at_some {xs:List Int} {i:Nat} {v:Int} (h:xs[i]?=some v):atI (xs.map V.int) (i:Int)=some (V.int v):=atI_nat (by rw [List.getElem?_map,h];rfl)
theorem Same.more {H H':Hp} {p:Addr} {o:HO} (e:Same H H') (h:H p=none):Same H (L2.upd H' p o):=fun b u q=>by rw [upd_ne (ne_of_none q h)];exact e b u q
def DS {α:Type}:Sem α->Prop
 | .rule _ k=>∀u,DS (k u)
 | .at _ k=>∀u,DS (k u)
 | .load _ _ k=>∀o,DS (k o)
 | .update _ _ f k=>(∀o,(f o).dict=o.dict∧(f o).isFreed=o.isFreed)∧∀u,DS (k u)
 | .alloc _ k=>∀a,DS (k a)
 | .loadIfAlive _ k=>∀o,DS (k o)
 | .point _ k=>∀u,DS (k u)
 | .fresh k=>∀t,DS (k t)
 | .ask k=>∀t,DS (k t)
 | .choose _ _ k=>∀n,DS (k n)
 | .os _ _ k=>∀r,DS (k r)
 | .call _ _ _ _ _=>False
 | .handled _ k=>∀o,DS (k o)
 | .newGen _ k=>∀n,DS (k n)
 | .genState _ k=>∀x,DS (k x)
 | .resume _ _ _ _=>False
 | .stack k=>∀l,DS (k l)
 | .thread k=>∀n,DS (k n)
 | _=>True
def DictIs (h:Heap) (e:Addr) (d:Option Addr):Prop:=∃o,h.get? e=some o∧o.dict=d
theorem DictIs.upd {h:Heap} {e a:Addr} {d:Option Addr} {f:Obj->Obj} (x:DictIs h e d) (hf:∀o,(f o).dict=o.dict∧(f o).isFreed=o.isFreed):DictIs (h.update a f) e d:=by
 obtain⟨o,ho,hd⟩:=x
 by_cases z:a=e
 ·subst z
  exact⟨f o,Heap.get?_update_self f ho (by rw [(hf o).2];exact (Heap.get?_some_iff.mp ho).2),by rw [(hf o).1];exact hd⟩
 ·exact⟨o,by rw [Heap.get?_update_other _ _ z];exact ho,hd⟩
theorem DictIs.push {h:Heap} {e:Addr} {d:Option Addr} {o':Obj} (x:DictIs h e d):DictIs (h.push o') e d:=by
 obtain⟨o,ho,hd⟩:=x
 exact⟨o,Heap.get?_push_of_some _ ho,hd⟩
theorem ds_keeps {α:Type} {M:Model} {Γ:PySem.Ctx} {e:Addr} {d:Option Addr} {Q:α->Pos->Shared->Prop} {E:Value->Pos->Shared->Prop} (t:Sem α):DS t->∀(p:Pos) (s:Shared),DictIs s.heap e d->Sem.wp M Γ t Q E p s->
  Sem.wp M Γ t (fun a p' s'=>Q a p' s'∧DictIs s'.heap e d) (fun v p' s'=>E v p' s'∧DictIs s'.heap e d) p s:=by
 induction t with
 | pure a=>exact fun _ p s x h=>⟨h,x⟩
 | raise v=>exact fun _ p s x h=>⟨h,x⟩
 | unsupported | finish | yield | fork | await | register=>exact fun _ _ _ _ h=>h
 | rule _ k ih | «at» _ k ih | loadIfAlive _ k ih | point _ k ih | fresh k ih | ask k ih | os _ _ k ih | handled _ k ih | newGen _ k ih | stack k ih | thread k ih=>exact fun D p s x h=>ih _ (D _) _ _ x h
 | alloc o k ih=>exact fun D p s x h=>ih _ (D _) _ _ x.push h
 | load a _ k ih | genState a k ih=>exact fun D p s x ⟨o,ho,h⟩=>⟨o,ho,ih _ (D _) _ _ x h⟩
 | choose _ _ k ih=>exact fun D p s x ⟨ha,h⟩=>⟨ha,ih _ (D _) _ _ x h⟩
 | update a _ f k ih=>exact fun D p s x ⟨ha,h⟩=>⟨ha,ih _ (D.2 _) _ _ (x.upd D.1) h⟩
 | call c h g l k ih=>exact fun D=>D.elim
 | resume g r l k ih=>exact fun D=>D.elim
theorem DS.bind {α β:Type} {f:α->Sem β} (m:Sem α):DS m->(∀a,DS (f a))->DS (m.bind f):=by
 induction m with
 | pure a=>exact fun _ h=>h a
 | raise | unsupported | finish | yield | fork | await | register=>exact fun _ _=>trivial
 | rule _ k ih | «at» _ k ih | loadIfAlive _ k ih | point _ k ih | fresh k ih | ask k ih | os _ _ k ih | handled _ k ih | newGen _ k ih | stack k ih | thread k ih | alloc _ k ih | load _ _ k ih | genState _ k ih | choose _ _ k ih=>exact fun D h x=>ih x (D x) h
 | update a _ f' k ih=>exact fun D h=>⟨D.1,fun x=>ih x (D.2 x) h⟩
 | call c h g l k ih=>exact fun D _=>D.elim
 | resume g r l k ih=>exact fun D _=>D.elim
theorem DS.bind' {α β:Type} {f:α->Sem β} {m:Sem α} (h:DS m) (k:∀a,DS (f a)):DS (m >>= f):=DS.bind m h k
theorem ds_any {α:Type} {M:Model} {A:Around} {e:Addr} {d:Option Addr} {t:Sem α} {Q:α->Shared->Prop} {E:Value->Shared->Prop} {s:Shared} (D:DS t) (x:DictIs s.heap e d) (h:wpAny M A t Q E s):
  wpAny M A t (fun a s'=>Q a s'∧DictIs s'.heap e d) (fun v s'=>E v s'∧DictIs s'.heap e d) s:=fun Γ p hΓ=>ds_keeps t D p s x (h Γ p hΓ)
theorem ds_load {a:Addr}:DS (load a):=fun _=>trivial
theorem ds_fieldsOf {v:Value}:DS (fieldsOf v):=by
 unfold fieldsOf
 split
 ·exact DS.bind' ds_load fun o=>by split <;> trivial
 ·trivial
theorem ds_field {v:Value} {i:Nat}:DS (field v i):=by
 unfold field
 exact DS.bind' ds_fieldsOf fun a=>by split <;> trivial
theorem ds_setField {v:Value} {i:Nat} {x:Value}:DS (setField v i x):=by
 unfold setField
 split
 ·unfold updateField
  refine DS.bind' ds_load fun o=>?_
  split
  ·split
   ·refine⟨fun o=>?_,fun _=>trivial⟩
    unfold Obj.mapFields
    obtain⟨c,dd,da,sl⟩:=o
    cases da <;> exact⟨rfl,rfl⟩
   ·trivial
  ·trivial
 ·trivial
theorem ds_setFlight {e:Value} {f:Option Addr}:DS (setFlight e f):=by
 unfold setFlight
 refine DS.bind' ds_field fun tb=>?_
 split
 ·exact ds_setField
 ·trivial
theorem ds_ready:∀l:List Env,DS (readyFrames l)
 | []=>trivial
 | env :: outer=>by
  unfold readyFrames
  split
  ·refine DS.bind' ds_load fun o=>?_
   split
   ·trivial
   ·refine DS.bind' ?_ fun b=>DS.bind' ?_ fun c=>DS.bind' (m:=update _ _) ⟨fun o=>⟨rfl,by obtain⟨c,dd,da,sl⟩:=o;cases da <;> rfl⟩,fun _=>trivial⟩ fun _=>ds_ready outer
    ·unfold behindIsImport
     split
     ·trivial
     ·split
      ·trivial
      ·exact DS.bind' ds_field fun _=>trivial
    ·unfold keptBack
     split
     ·split
      ·trivial
      ·exact DS.bind' (DS.bind' (fun _=>trivial) fun _=>trivial) fun _=>trivial
     ·trivial
  ·trivial
theorem ds_frameOf {env:Env}:DS (PySem.frameOf env):=by
 unfold PySem.frameOf
 refine DS.bind' (DS.bind' (fun _=>trivial) fun _=>trivial) fun l=>DS.bind' ?_ fun o=>?_
 ·unfold frameObject
  split
  ·trivial
  ·exact DS.bind' (ds_ready _) fun _=>trivial
 ·split <;> trivial
theorem ds_place {f:Addr} {b:Bool}:DS (entryPlaceOf f b):=by
 unfold entryPlaceOf
 refine DS.bind' (fun _=>trivial) fun l=>?_
 split <;> trivial
theorem ds_newObj {ty:String} {vs:Array Value}:DS (newObj (.type ty) (.fields vs)):=by
 unfold newObj newObjAsIs
 dsimp only
 split
 ·trivial
 ·exact fun a=>trivial
theorem ds_noteFrame {e:Value} {env:Env}:DS (noteFrame e env):=by
 unfold noteFrame
 split
 ·refine DS.bind' ds_field fun hd=>?_
  rename_i f _
  have rest:∀hd:Value,DS (do setField e 1 (← EntryCells.newEntry hd (← PySem.frameOf env) .none (rawInt f) .none (← entryPlaceOf f (hd != .none)))):=fun hd=>by
   refine DS.bind' ds_frameOf fun a=>DS.bind' ds_place fun pl=>DS.bind' ?_ fun b=>ds_setField
   unfold EntryCells.newEntry newFields
   exact ds_newObj
  split
  ·refine DS.bind' ds_field fun fl=>?_
   split
   ·trivial
   ·exact DS.bind' ds_setField fun _=>rest hd
  ·exact rest hd
 ·trivial
theorem ds_leaving {e:Value} {env:Env}:DS (leaving env e):=DS.bind' ds_noteFrame fun _=>ds_setFlight
theorem ObjOk.ex {P:Program} {w:World} {H:Hp} {h:Heap} {a:Addr} {o:HO} (x:ObjOk P w H h a o):∃ob,h.get? a=some ob:=by
 cases o with
 | lst xs=>obtain⟨_,_,_,_,e⟩:=x;exact⟨_,e⟩
 | tup xs=>obtain⟨_,_,_,ob,e,_⟩:=x;exact⟨_,e⟩
 | dK kvs=>obtain⟨_,_,_,_,o,_,_,e,_⟩:=x;exact⟨_,e⟩
 | dT kvs=>obtain⟨_,_,_,_,o,_,_,e,_⟩:=x;exact⟨_,e⟩
 | set S n=>obtain⟨o,_,_,_,e,_⟩:=x;exact⟨_,e⟩
 | ins C dx fs=>obtain⟨_,_,_,e,_⟩:=x;exact⟨_,e⟩
 | own y=>obtain⟨_,e⟩:=x;exact⟨_,e⟩
 | xd fs=>obtain⟨_,⟨_,_,_,e,_⟩,_⟩:=x;exact⟨_,e⟩
 | rng lo hi=>obtain⟨_,_,_,e⟩:=x;exact⟨_,e⟩
 | frz ob u=>obtain⟨e,_⟩:=x;exact⟨_,e⟩
 | tbl ps=>exact⟨_,(show h.get? a=some _ from x)⟩
 | met f y=>exact⟨_,(show h.get? a=some _ from x)⟩
 | ext φ=>obtain⟨_,e,_⟩:=x;exact e
structure Grd (P:Program) (w:World) (fs:List Addr) (H H':Hp) (h B:Heap):Prop where
 keep:∀b o,h.get? b=some o->H b=none->b∉fs->B.get? b=some o
 there:∀b o,h.get? b=some o->b∉fs->∃o',B.get? b=some o'
 free:∀b o,h.get? b=some o->H b=none->H' b=none
 tups:∀b xs,H b=some (.tup xs)->H' b=some (.tup xs)
 frzs:∀b o u,H b=some (.frz o u)->H' b=some (.frz o u)
 tbls:∀b ps,H b=some (.tbl ps)->∃more,H' b=some (.tbl (ps++more))
 hok:HOk P w H' B
def Slt (fs:List Addr) (h h':Heap):Prop:=∀b o,h.get? b=some o->b∈fs->∃sl,h'.get? b=some { o with slots:=sl }
theorem Grd.un {P:Program} {w:World} {fs:List Addr} {H H':Hp} {h B h':Heap} (G:Grd P w fs H H' h B) (st:B.StaysIn h') (sl:Slt fs h h'):Un fs [] H H' h h':=
 ⟨fun b o q n hb _=>st b o (G.keep b o q n hb),fun b o q _ hb _=>sl b o q hb,fun b o q n _=>G.free b o q n,fun b o q _=>by
  by_cases hb:b∈fs
  ·obtain⟨_,e⟩:=sl b o q hb
   exact⟨_,e⟩
  ·obtain⟨o',e⟩:=G.there b o q hb
   exact⟨o',st b o' e⟩,G.tups,G.frzs,G.tbls⟩
def CXE (P:Program) (w:World):CXT:=fun outer H s E e s'=>∃(a t C:Addr) (H':Hp) (B:Heap) (od:Option Addr),e=.ref a∧s'.os=s.os∧AllBare s'.gens∧Heap.FlyingW B outer a (.ref C) (.ref t) s'.heap∧DictIs s'.heap a od∧
 Grd P w (frs outer) H H' s.heap B∧Slt (frs outer) s.heap s'.heap∧E (.ref C) od H'
theorem passF {P:Program} {w:World} {X:Cx}:Passes (CXE P w) X E0:=fun _ _ _ _ _ _ _ h=>by
 obtain⟨_,_,_,_,_,_,_,_,_,_,_,_,_,q⟩:=h
 exact q.elim
structure Top1 (X:Cx):Prop where
 st:X.stack=X.env :: X.outer
 fr:X.env.frame=some X.env.locals
section
variable {X:Cx} {pins:List (Addr×Obj)} {σ:St} {H H':Hp} {s:Shared}
theorem Slt.up {h1 h2:Heap} (I:Inv X pins σ H s) (a:Slt (frs X.stack) s.heap h1) (u:h1.UpToSlots h2):Slt (frs X.stack) s.heap h2:=fun b o q hb=>by
 obtain⟨_,o',ho',hd⟩:=I.stack.mem hb
 rw [q] at ho';cases ho'
 obtain⟨_,e⟩:=a b o q hb
 obtain⟨sl',e'⟩:=u b _ e hd
 exact⟨sl',e'⟩
theorem HOk.hide {P:Program} {w:World} {h:Heap} {fs:List Addr} (x:HOk P w H h) (hf:∀b∈fs,H b=none):HOk P w H (PySem.W.hideAll h fs):=fun a o e=>
 (x a o e).stay (fun b u hb q=>PySem.W.hideAll_get _ q fun z=>by
  have n:=hf b z
  rcases hb with hb | hb
  ·rw [hb,e] at n;cases n
  ·rw [hb] at n;cases n) (fun _ q=>q) fun _ _ q=>q
end
section
variable {P:Program} {w:World} {K:W.Frag} {mg:Str->Option Value} {base:Heap} {N:List Str} {qual:Str} {scope:Scope} {f:Addr} {cd:Value} {A:Around} {outer:List Env} {s0:Shared} {H0:Hp} {E:XK}
theorem nofr0 {pins:List (Addr×Obj)} {σ:St} {H:Hp} {s:Shared} (I:Inv (cxOf (CXE P w) P w K mg base N qual scope f cd A outer s0 H0 E) pins σ H s) {b:Addr} {o:Obj} (q:s0.heap.get? b=some o) (hb:b∉frs outer):
  b∉frs (envOfC qual scope s0.heap.objs.size f cd :: outer):=fun z=>by
 rcases List.mem_cons.mp (I.stkSub b z) with e | e
 ·exact absurd (Heap.lt_size q) (by rw [e];exact Nat.not_lt.mpr I.ok.above)
 ·exact hb e
theorem throw_here {pins:List (Addr×Obj)} {σ:St} {H:Hp} {s:Shared} {h':Heap} {a C:Addr} {args:List Value} (I:Inv (cxOf (CXE P w) P w K mg base N qual scope f cd A outer s0 H0 E) pins σ H s)
  (hx:Heap.MadeExcOf s.heap h' a (.ref C) args) (q:E (.ref C) none H):(cxOf (CXE P w) P w K mg base N qual scope f cd A outer s0 H0 E).xe (.ref a) { s with heap:=h' }:=by
 have hfs:∀b∈frs (envOfC qual scope s0.heap.objs.size f cd :: outer),H b=none:=I.stkFree
 have hin:∀env∈(envOfC qual scope s0.heap.objs.size f cd :: outer),∀b,env.frame=some b->b∈frs (envOfC qual scope s0.heap.objs.size f cd :: outer):=fun env he b hb=>List.mem_filterMap.mpr ⟨env,he,hb⟩
 have hst:s.heap.FunFrames base (envOfC qual scope s0.heap.objs.size f cd :: outer):=I.stack
 have noE:∀b:Addr,b∉(cxOf (CXE P w) P w K mg base N qual scope f cd A outer s0 H0 E).ex:=fun b z=>absurd (show b∈([]:List Addr) from z) (by simp)
 have hdn:DictIs h' a none:=by obtain⟨t,he,_⟩:=hx.there;exact⟨_,he,rfl⟩
 refine wpAny_mono (ds_any (s:={ s with heap:=h' }) ds_leaving hdn (wpAny_leaves_madeW (Q:=fun _ s2=>∃t,Heap.FlyingW (PySem.W.hideAll s.heap (frs (envOfC qual scope s0.heap.objs.size f cd :: outer))) outer a (.ref C) (.ref t) s2.heap∧h'.UpToSlots s2.heap∧∃h2,s2={ s with heap:=h2 }) (E:=fun _ _=>False) (base:=PySem.W.hideAll s.heap (frs (envOfC qual scope s0.heap.objs.size f cd :: outer))) I.ok.frames rfl (fun b o z=>PySem.W.of_hideAll _ z) (PySem.W.funFrames_hide hst hin) hx fun h2 t fl _ _ up=>⟨t,fl,up,h2,rfl⟩)) (fun _ s2 z=>?_) fun _ _ z=>z.1.elim
 obtain⟨⟨t,fl,up,h2,rfl⟩,dI⟩:=z
 refine⟨a,t,C,H,_,none,rfl,I.os,I.bare,fl,dI,⟨fun b o e n hb=>?_,fun b o e hb=>?_,fun b o e n=>I.base.free b o e n (noE b),I.base.tups,I.base.frzs,I.base.tbls,I.hok.hide hfs⟩,fun b o e hb=>?_,q⟩
 ·exact PySem.W.hideAll_get _ (I.base.keep b o e n hb (noE b)) (nofr0 I e hb)
 ·obtain⟨o',e'⟩:=I.base.there b o e (noE b)
  exact⟨o',PySem.W.hideAll_get _ e' (nofr0 I e hb)⟩
 ·obtain⟨_,o',ho',hd⟩:=I.ok.funs.mem hb
  rw [show (cxOf (CXE P w) P w K mg base N qual scope f cd A outer s0 H0 E).s₀.heap.get? b=some o from e] at ho';cases ho'
  obtain⟨sl,e1⟩:=I.base.slot b o e (I.ok.frf b hb) hb (noE b)
  obtain⟨sl',e2⟩:=up b _ (hx.keeps _ _ e1) hd
  exact⟨sl',e2⟩
theorem passE:Passes (CXE P w) (cxOf (CXE P w) P w K mg base N qual scope f cd A outer s0 H0 E) E:=fun pins σ H s e s' I c=>by
 obtain⟨a,t,C,H',B,od,rfl,os,bare,fl,dI,G,sl,q⟩:=c
 have noE:∀b:Addr,b∉(cxOf (CXE P w) P w K mg base N qual scope f cd A outer s0 H0 E).ex:=fun b z=>absurd (show b∈([]:List Addr) from z) (by simp)
 refine wpAny_mono (ds_any ds_leaving dI (wpAny_leaves_onW (Q:=fun _ s2=>Heap.FlyingW B outer a (.ref C) (.ref t) s2.heap∧s'.heap.UpToSlots s2.heap∧∃h2,s2={ s' with heap:=h2 }) (E:=fun _ _=>False) I.ok.frames rfl fl fun h2 fl2 up=>⟨fl2,up,h2,rfl⟩)) (fun _ s2 z=>?_) fun _ _ z=>z.1.elim
 obtain⟨⟨fl2,up,h2,rfl⟩,dI2⟩:=z
 refine⟨a,t,C,H',B,od,rfl,os.trans I.os,bare,fl2,dI2,⟨fun b o e n hb=>?_,fun b o e hb=>?_,fun b o e n=>?_,fun b xs z=>G.tups b xs (I.base.tups b xs z),fun b o u z=>G.frzs b o u (I.base.frzs b o u z),fun b ps z=>?_,G.hok⟩,fun b o e hb=>?_,q⟩
 ·exact G.keep b o (I.base.keep b o e n hb (noE b)) (I.base.free b o e n (noE b)) (nofr0 I e hb)
 ·obtain⟨o',e'⟩:=I.base.there b o e (noE b)
  exact G.there b o' e' (nofr0 I e hb)
 ·obtain⟨o',e'⟩:=I.base.there b o e (noE b)
  exact G.free b o' e' (I.base.free b o e n (noE b))
 ·obtain⟨m1,e1⟩:=I.base.tbls b ps z
  obtain⟨m2,e2⟩:=G.tbls b _ e1
  exact⟨m1++m2,by rw [e2,Array.append_assoc]⟩
 ·obtain⟨_,o',ho',hd⟩:=I.ok.funs.mem hb
  rw [show (cxOf (CXE P w) P w K mg base N qual scope f cd A outer s0 H0 E).s₀.heap.get? b=some o from e] at ho';cases ho'
  obtain⟨_,e1⟩:=I.base.slot b o e (I.ok.frf b hb) hb (noE b)
  obtain⟨_,e2⟩:=sl b _ e1 (by show b∈frs (envOfC qual scope s0.heap.objs.size f cd :: outer);exact List.mem_cons_of_mem _ hb)
  obtain⟨sl',e3⟩:=up b _ e2 hd
  exact⟨sl',e3⟩
theorem Fun.okE {x:Str} {st:Stmt} {fd:FuncData} {ps:List Str} {k:Nat} {sp:Sp} (F:Fun K x qual st f fd) (S:FnScope N ps (defScope st)) (len:∀vs H Q E,sp vs H Q E->vs.length=ps.length)
  (hbody:∀(cdv:Value) (A:Around) (outer:List Env) (s:Shared) (H:Hp) (vs:List V) (Q:VK) (E:XK),Room k (A.deeper (envOfC qual (defScope st) s.heap.objs.size f cdv))->sp vs H Q E->
   ∃t,PSs (cxOf (CXE P w) P w K mg base N qual (defScope st) f cdv A outer s H E) (defBody st) t∧t { nx:=fun _ H'=>Q .non H',rt:=Q } (start N vs) H):FnOk P w K mg base (CXE P w) (k+1) f fd ps sp:=by
 obtain⟨oc,od,kV,doc,pm,an,cdv,ct,osl,rfl,lk,hcd⟩:=F.ex
 exact fn_of lk hcd S len fun A outer s H vs Q E hr hsp=>hbody cdv A outer s H vs Q E hr hsp
end
theorem PS.nox {X:Cx} {st:Stmt} {t:TS} (h:PS X.nox st t):PS X st t:=fun pins s σ H D I hw=>
 wpAny_mono (h pins s σ H D (I.wish _) hw) (fun _ _ q=>q.unwish) fun _ _ z=>False.elim z
abbrev bmV:List Value:=[.type "ValueError",.type "Exception",.type "BaseException",.type "object"]
theorem exc_obj {K:W.Frag} {C:Addr} (q:PySem.W.excIn K C bmV "ValueError.__new__" = true):∃bm N nm qn bs hd sn sub ab col dd k0 k1 k2 k3 k5,
  K.lookup C=some (excClassObj nm qn C N bs bm hd sn sub ab col dd k0 k1 k2 k3 k5 "ValueError.__new__")∧PySem.W.tailIn K bmV bm=true∧PySem.W.nsOkIn K N=true∧PySem.W.nsIn K N "__init__" = some none:=by
 unfold PySem.W.excIn at q
 split at q
 ·rename_i dd cd sl ho
  split at q
  ·rename_i C1 bm k0 k1 k2 k3 n k5 hm hs
   rw [Bool.and_eq_true,Bool.and_eq_true,Bool.and_eq_true,Bool.and_eq_true,Bool.and_eq_true] at q
   obtain⟨⟨⟨⟨⟨q1,q2⟩,q3⟩,q4⟩,q5⟩,q6⟩:=q
   have r1:=beq_iff_eq.mp q1
   have r2:=beq_iff_eq.mp q2
   have r6:=beq_iff_eq.mp q6
   subst r1 r2
   obtain⟨nm,bs,mro,ns,qn,hd,sn,sub,ab,col,del⟩:=cd
   simp only at hm q3 q5 r6
   have q3':del=false:=by cases del <;> simp at q3 ⊢
   subst hm q3'
   obtain⟨l⟩:=sl
   simp only at hs
   subst hs
   exact⟨bm,ns,nm,qn,bs,hd,sn,sub,ab,col,dd,k0,k1,k2,k3,k5,ho,q4,q5,r6⟩
  ·cases q
 ·cases q
def ExcO (K:W.Frag) (C:Addr):Prop:=∃bm N nm qn bs hd sn sub ab col dd k0 k1 k2 k3 k5,K.lookup C=some (excClassObj nm qn C N bs bm hd sn sub ab col dd k0 k1 k2 k3 k5 "ValueError.__new__")∧PySem.W.tailIn K bmV bm=true
theorem ExcO.of {K:W.Frag} {C:Addr} (q:PySem.W.excIn K C bmV "ValueError.__new__" = true):ExcO K C:=by
 obtain⟨a1,a2,a3,a4,a5,a6,a7,a8,a9,b1,b2,b3,b4,b5,b6,b7,h,t,_⟩:=exc_obj q
 exact⟨a1,a2,a3,a4,a5,a6,a7,a8,a9,b1,b2,b3,b4,b5,b6,b7,h,t⟩
def Throws (X:Cx) (E:XK):Prop:=∀(pins:List (Addr×Obj)) (σ:St) (H:Hp) (s:Shared) (h':Heap) (a C:Addr) (args:List Value),Inv X pins σ H s->Heap.MadeExcOf s.heap h' a (.ref C) args->E (.ref C) none H->X.xe (.ref a) { s with heap:=h' }
theorem throwE {P:Program} {w:World} {K:W.Frag} {mg:Str->Option Value} {base:Heap} {N:List Str} {qual:Str} {scope:Scope} {f:Addr} {cd:Value} {A:Around} {outer:List Env} {s0:Shared} {H0:Hp} {E:XK}:
  Throws (cxOf (CXE P w) P w K mg base N qual scope f cd A outer s0 H0 E) E:=fun _ _ _ _ _ _ _ _ I hx q=>throw_here I hx q
def tRaise (C:Addr) (ta:TA) (E:XK):TS:=fun _ σ H=>ta σ H fun vs H1=>vs.length<=sizeLine∧E (.ref C) none H1
theorem a_raise {C:Addr} {ta:TA} {E:XK} {D:Ends} {σ:St} {H:Hp}:tRaise C ta E D σ H=ta σ H fun vs H1=>vs.length<=sizeLine∧E (.ref C) none H1:=rfl
theorem ps_raise {X:Cx} {E:XK} {x:Str} {C:Addr} {e0:Expr} {ta:TA} {np cpos pos:Pos} (hc:X.calm=true) (hr:Throws X E) (hg:Gl X x) (hm:X.mg x=some (.ref C)) (hx:PySem.W.excIn X.K C bmV "ValueError.__new__" = true) (ha:PA X [e0] ta)
  (he:starEach [e0] X.env=[(false,eval e0 X.env)]:=by rfl) (hpl:(backTo cpos (starEach [e0] X.env)).any (·.1)=false:=by rfl) (hd:(x == ("__debug__" : Str))=false:=by decide):
  PS X (.Raise (some (.Call (.Name x np) [e0] [] cpos)) none pos) (tRaise C ta E):=by
 intro pins s σ H D I h
 obtain⟨bm,N,nm,qn,bs,hdc,sn,sub,ab,col,dd,k0,k1,k2,k3,k5,lk,tl,ok,ni⟩:=exc_obj hx
 have T0:OwnTail s.heap bmV bm:=PySem.W.tail_of_in I.kIn tl
 refine wpAny_Raise_call_subT (C:=C) (nm:=nm) (q:=qn) (N:=N) (bs:=bs) (bm:=bm) (hdct:=hdc) (sn:=sn) (sub:=sub) (ab:=ab) (col:=col) (dd:=dd) (k0:=k0) (k1:=k1) (k2:=k2) (k3:=k3) (k5:=k5)
  PySem.F.excBase_ValueError (mN:=s.heap.nsMap N) (T0.hasType PySem.F.excBase_ValueError.hasBase) (I.ok.hd hc) hpl (PySem.W.nsMap_none_of_in I.kIn ok ni) (ld_glob I hg hm ⟨rfl,?_⟩ hd)
 have ns0:s.heap.Ns N (s.heap.nsMap N):=.of_isNs (PySem.W.isNs_of_in I.kIn ok)
 have h2:=ha cpos pins s σ H _ I h
 rw [he] at h2 ⊢
 refine Calls.evalArgs_plain (wpAny_mono h2 (fun vs s2 z=>?_) fun _ _ y=>y)
 obtain⟨xs,H1,I1,r1,q1,q2⟩:=z
 have eN:s.heap.nsMap N=s2.heap.nsMap N:=by
  obtain⟨o,es,ep,ho,hdt,_⟩:=id ns0
  unfold PySem.W.nsOkIn at ok
  split at ok
  ·rename_i z
   unfold Heap.nsMap
   rw [I.kIn _ _ z,I1.kIn _ _ z]
  ·cases ok
 refine⟨rfl,by rw [← r1.length];exact q1,I1.kIn _ _ lk,?_,PySem.W.tail_of_in I1.kIn tl,fun h' a hm'=>hr pins σ H1 s2 h' a C vs I1 hm' q2⟩
 rw [eN];exact .of_isNs (PySem.W.isNs_of_in I1.kIn ok)
def IsExc (a C:Addr) (od:Option Addr:=none):HO:=.ext fun h=>∃oe vs,h.get? a=some oe∧oe.cls=.ref C∧oe.data=.fields vs∧oe.dict=od
abbrev Cx.hdl (X:Cx) (a:Addr):Cx:={ X with A:=X.A.mark (some (.ref a)),calm:=false,xe:=fun _ _=>False }
section
variable {X:Cx} {pins:List (Addr×Obj)} {σ:St} {H H':Hp} {s:Shared} {a:Addr}
theorem Inv.hdl (I:Inv X pins σ H s) (a:Addr):Inv (X.hdl a) pins σ H s:=
 ⟨⟨I.ok.mod,I.ok.kind,I.ok.glob,I.ok.blt,I.ok.above,I.ok.inj,I.ok.has,I.ok.cab,(fun z=>nomatch z),I.ok.frames,I.ok.stk,I.ok.exf,I.ok.bs,I.ok.bsz,I.ok.noex,I.ok.exfs,I.ok.funs,I.ok.frf⟩,I.os,I.bare,I.base,I.loc,I.cell,I.free,I.freeC,I.pin,I.hok,I.len⟩
theorem Inv.unhdl (I:Inv (X.hdl a) pins σ H s) (ok:X.Ok):Inv X pins σ H s:=⟨ok,I.os,I.bare,I.base,I.loc,I.cell,I.free,I.freeC,I.pin,I.hok,I.len⟩
end
theorem exc_mro {K:W.Frag} {C:Addr} {b:Value} {r:Bool} {nm q:Str} {N:Addr} {bs bm:List Value} {hd:Bool} {sn:List Str} {sub:List Value} {ab:Bool} {col:Option Bool} {dd:Option Addr} {k0 k1 k2 k3 k5:Option Value} {nid:String}
  (lk:K.lookup C=some (excClassObj nm q C N bs bm hd sn sub ab col dd k0 k1 k2 k3 k5 nid)) (e:PySem.W.mroIn K C b=some r):(Value.ref C :: bm).contains b=r:=by
 obtain⟨cd,a,e2⟩:=Option.bind_eq_some_iff.mp e
 unfold PySem.W.clsIn at a
 rw [lk] at a
 simp only [excClassObj,Option.some.injEq] at a
 subst a
 simpa using e2
theorem matches_up {M:Model} {A:Around} {E:Value->Shared->Prop} {Q:Bool->Shared->Prop} {h:Heap} {g:Array GenState} {d:Drawn} {t:Nat} {os:OsState} {a C D:Addr} {oe:Obj}
  {nm q:Str} {N:Addr} {bs bm:List Value} {hd:Bool} {sn:List Str} {sub:List Value} {ab:Bool} {col:Option Bool} {dd:Option Addr} {k0 k1 k2 k3 k5:Option Value} {nid:String}
  {nm' q':Str} {N':Addr} {bs' bm':List Value} {hd':Bool} {sn':List Str} {sub':List Value} {ab':Bool} {col':Option Bool} {dd':Option Addr} {k0' k1' k2' k3' k5':Option Value} {nid':String}
  (hC:h.get? C=some (excClassObj nm q C N bs bm hd sn sub ab col dd k0 k1 k2 k3 k5 nid)) (hD:h.get? D=some (excClassObj nm' q' D N' bs' bm' hd' sn' sub' ab' col' dd' k0' k1' k2' k3' k5' nid'))
  (ha:h.get? a=some oe) (hcls:oe.cls=.ref C) (hb:(Value.ref D :: bm').contains (.type "BaseException")=true) (hs:(Value.ref C :: bm).contains (.ref D)=true) (hq:Q true ⟨h,g,d,t,os⟩):
  wpAny M A (excMatches (.ref a) (.ref D)) Q E ⟨h,g,d,t,os⟩:=by
 have f:=tc_notTuple
 unfold excMatches
 repeat (first | (with_reducible refine wpAny_loadPart_at ha ?_;rw [hcls]) | with_reducible refine wpAny_loadPart_at hD ?_ | (with_reducible refine wpAny_isSubtype_exc hD ?_;rw [hb]) | (with_reducible refine wpAny_isSubtype_exc hC ?_;rw [hs]) | wp_step)
 exact hq
structure Catches (K:W.Frag) (C D:Addr):Prop where
 c:ExcO K C
 d:ExcO K D
 base:PySem.W.mroIn K D (.type "BaseException")=some true
 sub:PySem.W.mroIn K C (.ref D)=some true
theorem matches_ok {K:W.Frag} {C D a:Addr} {oe:Obj} {M:Model} {A:Around} {E:Value->Shared->Prop} {Q:Bool->Shared->Prop} {s:Shared} (k:Catches K C D) (X:K.In s.heap) (ha:s.heap.get? a=some oe) (hcls:oe.cls=.ref C) (hq:Q true s):
  wpAny M A (excMatches (.ref a) (.ref D)) Q E s:=by
 obtain⟨bm,N,nm,qn,bs,hdc,sn,sub,ab,col,dd,k0,k1,k2,k3,k5,lk,_⟩:=k.c
 obtain⟨bm',N',nm',qn',bs',hdc',sn',sub',ab',col',dd',k0',k1',k2',k3',k5',lk',_⟩:=k.d
 obtain⟨h,g,d,t,os⟩:=s
 exact matches_up (X _ _ lk) (X _ _ lk') ha hcls (exc_mro lk' k.base) (exc_mro lk k.sub) hq
section
variable {X:Cx} {pins:List (Addr×Obj)} {σ:St} {H H':Hp} {s s2:Shared} {a t C:Addr} {B:Heap}
theorem exc_new (I:Inv X pins σ H s) (fl:Heap.FlyingW B X.stack a (.ref C) (.ref t) s2.heap) (G:Grd X.prog X.w (frs X.stack) H H' s.heap B) (sl:Slt (frs X.stack) s.heap s2.heap):s.heap.get? a=none∧H' a=none:=by
 constructor
 ·cases q:s.heap.get? a with
  | none=>rfl
  | some o=>
   by_cases hb:a∈frs X.stack
   ·obtain⟨_,o',ho',hd⟩:=I.stack.mem hb
    rw [q] at ho';cases ho'
    obtain⟨sl',e⟩:=sl a o q hb
    obtain⟨oe,vs,he,_,hdd,_⟩:=fl.first
    rw [e] at he;cases he
    exact absurd hdd (hd vs)
   ·obtain⟨o',e⟩:=G.there a o q hb
    rw [fl.2.1] at e;cases e
 ·cases q:H' a with
  | none=>rfl
  | some u=>
   obtain⟨ob,e⟩:=(G.hok a u q).ex
   rw [fl.2.1] at e;cases e
theorem landed {s3:Shared} {od:Option Addr} (dI:DictIs s3.heap a od) (I:Inv X pins σ H s) (os:s3.os=s.os) (bare:AllBare s3.gens) (fl:Heap.FlyingW B X.stack a (.ref C) (.ref t) s3.heap) (G:Grd X.prog X.w (frs X.stack) H H' s.heap B) (sl:Slt (frs X.stack) s.heap s3.heap):
  Inv X pins σ (upd H' a (IsExc a C od)) s3:=by
 obtain⟨n1,n2⟩:=exc_new I fl G sl
 have u:=G.un fl.1 sl
 have ne:∀b o,s.heap.get? b=some o->b≠a:=fun b o q z=>by rw [z,n1] at q;cases q
 have neH:∀b o,H' b=some o->b≠a:=fun b o q z=>by rw [z,n2] at q;cases q
 have neH0:∀b o,H b=some o->b≠a:=fun b o q=>by
  obtain⟨ob,e⟩:=(I.hok b o q).ex
  exact ne b ob e
 refine I.call' (ch:=[]) os ⟨u.keep,u.slot,fun b o q n hx=>by rw [upd_ne (ne b o q)];exact u.free b o q n hx,u.there,fun b xs q=>by rw [upd_ne (neH0 b _ q)];exact u.tups b xs q,fun b o w q=>by rw [upd_ne (neH0 b _ q)];exact u.frzs b o w q,fun b ps q=>by rw [upd_ne (neH0 b _ q)];exact u.tbls b ps q⟩ (fun b w e=>?_) bare (fun _ z=>nomatch z)
 by_cases hb:b=a
 ·subst hb
  rw [upd_same] at e;cases e
  obtain⟨oe,vs,h1,h2,h3,_⟩:=fl.first
  obtain⟨oe',h1',h4⟩:=dI
  rw [h1] at h1';cases h1'
  exact⟨⟨oe,vs,h1,h2,h3,h4⟩,⟨oe,h1⟩,fun h1 h2 ⟨o1,w1,p,q,r⟩ k=>⟨o1,w1,k _ p,q,r⟩⟩
 ·rw [upd_ne hb] at e
  exact (G.hok b w e).stay (fun c v _ q=>fl.1 c v q) (fun c q=>by rw [upd_ne (neH c _ q)];exact q) fun c xs q=>by rw [upd_ne (neH c _ q)];exact q
end
def PXE (X:Cx) (e:Expr) (t:XK->TE):Prop:=∀(pins:List (Addr×Obj)) (s:Shared) (σ:St) (H:Hp) (Q:VK) (E:XK),Inv X pins σ H s->t E σ H Q->
 wpAny (model X.prog X.w) X.A (eval e X.env) (EP X pins σ Q) (fun x s'=>∃H1 s1,Inv X pins σ H1 s1∧CXE X.prog X.w X.stack H1 s1 E x s') s
def PX (X:Cx) (st:Stmt) (t:XK->TS):Prop:=∀(pins:List (Addr×Obj)) (s:Shared) (σ:St) (H:Hp) (D:Ends) (E:XK),Inv X pins σ H s->t E D σ H->
 wpAny (model X.prog X.w) X.A (exec st X.env) (SP X pins D) (fun x s'=>∃H1 s1,Inv X pins σ H1 s1∧CXE X.prog X.w X.stack H1 s1 E x s') s
section
variable {X:Cx} {k:Nat} {f:Addr} {fd:FuncData} {ps:List Str} {sp:Sp} {x:Str} {p pos:Pos} {e:Expr} {es:List Expr} {t:TA}
theorem px_call (F:FnOk X.prog X.w X.K X.mg X.base (CXE X.prog X.w) k f fd ps sp) (hr:Room k X.A) (hg:Gl X x) (hm:X.mg x=some (.ref f)) (hk:PySem.W.keepIn X.K (.ref f)=true) (hb:Binds X.K fd ps []) (ha:PA X.nox (e :: es) t)
  (hdb:(x == ("__debug__" : Str))=false:=by decide) (he:starEach (e :: es) X.env=(false,eval e X.env) :: starEach es X.env:=by rfl) (hpl:(backTo pos (starEach es X.env)).any (·.1)=false:=by rfl):
  PXE X (.Call (.Name x p) (e :: es) [] pos) (fun E=>tCall sp [] E t):=by
 intro pins s σ H Q E I h
 refine wpAny_Call_Name_kw (ld_glob I hg hm ?_ hdb)
 refine PySem.W.callWith_K (h₀:=X.base) I.ok.mod.kin hk (wpAny_mono (ha pos pins s σ H _ (I.wish _) h) (fun us s1 ⟨vs,H1,I1,r,q⟩=>⟨I1.kIn,?_⟩) fun _ _ z=>False.elim z) he hpl
 have I2:Inv X pins σ H1 s1:=I1.unwish
 have r2:Vals (vs++[]) (us++[]):=r.append .nil
 have hl:(us++[]).length=ps.length:=by rw [← r2.length];exact F.len _ _ _ _ q
 refine wpAny_call (codeAny_mono (F.run X.A X.stack s1 H1 ⟨us,[]⟩ (us++[]) (vs++[]) Q E hr I2.env0 (hb s1 us I2.kIn hl) r2 q) fun r s' hq=>?_)
 cases r with
 | error x=>exact⟨H1,s1,I2,hq⟩
 | ok fl=>
  cases fl with
  | ret u=>exact I2.after hq
  | next=>exact False.elim hq
  | brk=>exact False.elim hq
  | cont=>exact False.elim hq
theorem px_expr {te:XK->TE} (he:PXE X e te) (hs:swapsWith e none pos.line X.env=pure false:=by rfl):PX X (.Expr e pos) (fun E=>tDrop (te E)):=by
 intro pins s σ H D E I h
 exact wpAny_Expr_any (thn (he pins s σ H _ E I h) fun v s1 ⟨y,H1,I1,r1,q1⟩=>⟨σ,H1,I1,q1⟩) I.quiet hs
end
def tTry (K:W.Frag) (Dc:Addr) (t:XK->TS) (th:TS):TS:=fun D σ H=>t (fun c od H1=>∃C,c=.ref C∧Catches K C Dc∧∀a,H1 a=none->th D σ (upd H1 a (IsExc a C od))) D σ H
theorem a_try {K:W.Frag} {Dc:Addr} {t:XK->TS} {th:TS} {D:Ends} {σ:St} {H:Hp}:tTry K Dc t th D σ H=t (fun c od H1=>∃C,c=.ref C∧Catches K C Dc∧∀a,H1 a=none->th D σ (upd H1 a (IsExc a C od))) D σ H:=rfl
section
variable {X:Cx} {st b0:Stmt} {suite:List Stmt} {t:XK->TS} {th:TS} {x n:Str} {Dc:Addr} {np hpos pos:Pos}
end
theorem gone {X:Cx} {pins:List (Addr×Obj)} {σ:St} {H:Hp} {s:Shared} {M:Model} {A:Around} {E:Value->Shared->Prop} {i:Nat} {n:Str} {pos:Pos} {Q:Unit->Shared->Prop} (I:Inv X pins σ H s) (hN:X.N.Nodup) (hi:X.N[i]?=some n)
  (hl:X.env.scope.names.lookup n=some .local) (h:∀s',Inv X pins (σ.set i none) H s'->Q () s'):wpAny M A (do bindName X.env n .none;unbindBehindTheSuite X.env n pos) Q E s:=by
 obtain⟨m,hn,hlk⟩:=id I.loc
 have hp:(X.env.scope.kind == .class || (X.env.scope.kind == .module && X.env.locals != X.env.globals))=false:=by rw [I.ok.kind];rfl
 refine wpAny_nameGoes_keeps hl hn hp fun h' v hn' hs=>h _ ?_
 have cne:=I.cne
 have low:∀b o,X.s₀.heap.get? b=some o->b≠X.env.locals:=fun b o e=>Nat.ne_of_lt (Nat.lt_of_lt_of_le (Heap.lt_size e) I.ok.above)
 have tracked:HOk X.prog X.w H h':=fun b ob e=>by
  refine (I.hok b ob e).stay (fun c w' hc q=>(hs.2 c ?_).trans q) (fun _ q=>q) fun _ _ q=>q
  intro z
  have fr:=I.free
  rcases hc with hc | hc
  ·rw [← hc,z,fr] at e;cases e
  ·rw [z,fr] at hc;cases hc
 refine⟨I.ok,I.os,I.bare,⟨fun b o e n hb hx=>?_,fun b o e n hb hx=>?_,I.base.free,fun b o e hx=>?_,I.base.tups,I.base.frzs,I.base.tbls⟩,⟨_,hn',fun j y v' e1 e2 e3=>?_⟩,fun y c e=>?_,I.free,I.freeC,fun p hp=>?_,tracked,by rw [List.length_set];exact I.len⟩
 ·exact (hs.2 b (low b o e)).trans (I.base.keep b o e n hb hx)
 ·obtain⟨sl,e1⟩:=I.base.slot b o e n hb hx
  exact⟨sl,(hs.2 b (low b o e)).trans e1⟩
 ·obtain⟨o',e1⟩:=I.base.there b o e hx
  exact⟨o',(hs.2 b (low b o e)).trans e1⟩
 ·have hij:j≠i:=fun z=>by
   subst z
   rw [List.getElem?_set] at e2
   simp only [if_true] at e2
   split at e2 <;> cases e2
  rw [List.getElem?_set_ne (Ne.symm hij)] at e2
  have hyn:y≠n:=fun z=>hij (nodup_ix hN e1 (by rw [z];exact hi))
  obtain⟨u,r,q⟩:=hlk j y v' e1 e2 e3
  refine⟨u,r,?_⟩
  rcases q with ⟨k,e⟩ | ⟨k,c,e,z⟩
  ·exact .inl ⟨k,by show (if y=n then v else m y)=some u;rw [if_neg hyn];exact e⟩
  ·exact .inr ⟨k,c,e,z.sameBut hs (cne _ c e)⟩
 ·obtain⟨w',z⟩:=I.cell y c e
  exact⟨w',z.sameBut hs (cne y c e)⟩
 ·obtain⟨e,n,ne,nf,d⟩:=I.pin p hp
  exact⟨(hs.2 p.1 ne).trans e,n,ne,nf,d⟩
def Ends.drop (D:Ends) (i:Nat):Ends:={ nx:=fun σ H=>D.nx (σ.set i none) H,rt:=D.rt,bk:=fun σ H=>D.bk (σ.set i none) H,ct:=fun σ H=>D.ct (σ.set i none) H }
def tTryAs (K:W.Frag) (Dc:Addr) (i:Nat) (t:XK->TS) (th:TS):TS:=fun D σ H=>t (fun c od H1=>∃C,c=.ref C∧Catches K C Dc∧∀a,H1 a=none->th (D.drop i) (σ.set i (some (.ref a))) (upd H1 a (IsExc a C od))) D σ H
theorem a_tryAs {K:W.Frag} {Dc:Addr} {i:Nat} {t:XK->TS} {th:TS} {D:Ends} {σ:St} {H:Hp}:tTryAs K Dc i t th D σ H=t (fun c od H1=>∃C,c=.ref C∧Catches K C Dc∧∀a,H1 a=none->th (D.drop i) (σ.set i (some (.ref a))) (upd H1 a (IsExc a C od))) D σ H:=rfl
theorem a_drop_nx {D:Ends} {i:Nat} {σ:St} {H:Hp}:(D.drop i).nx σ H=D.nx (σ.set i none) H:=rfl
section
variable {X:Cx} {st b0:Stmt} {suite:List Stmt} {t:XK->TS} {th:TS} {x n:Str} {Dc:Addr} {np hpos pos:Pos} {i:Nat}
theorem ps_tryAs (T1:Top1 X) (h1:PX X st t) (hg:Gl X x) (hm:X.mg x=some (.ref Dc)) (hN:X.N.Nodup) (hi:X.N[i]?=some n) (hl:X.env.scope.names.lookup n=some .local) (hs:∀a,PSs (X.hdl a) (b0 :: suite) th) (hd:(x == ("__debug__" : Str))=false:=by decide):
  PS X (.Try [st] [.ExceptHandler (some (.Name x np)) (some n) (b0 :: suite) hpos] [] [] pos) (tTryAs X.K Dc i t th):=by
 intro pins s σ H D I h
 have hfr:X.A.frames=some (X.env :: X.outer):=by rw [I.ok.frames,T1.st]
 refine wpAny_Try_except (wpAny_mono (wpAny_execs_cons (thn (h1 pins s σ H D _ I h) fun f s1 q=>?_)) (fun _ _ y=>y) fun e s2 q=>?_)
 ·cases f with
  | next=>exact wpAny_execs_nil (wpAny_execs_nil q)
  | ret v=>exact q
  | brk=>exact q
  | cont=>exact q
 ·obtain⟨H1,s1,I1,a,tt,C,H',B,od,rfl,os,bare,fl,dI,G,sl,Cc,eC,kc,qh⟩:=q
  cases eC
  have fl0:Heap.FlyingW B (X.env :: X.outer) a (.ref C) (.ref tt) s2.heap:=by rw [← T1.st];exact fl
  refine wpAny_mono (ds_any ds_noteFrame dI (wpAny_looks_onW (Q:=fun _ s4=>Heap.HeldW B (X.env :: X.outer) a (.ref C) (.ref tt) X.env.locals s4.heap∧s2.heap.UpToSlots s4.heap∧∃h4,s4={ s2 with heap:=h4 }) (E:=fun _ _=>False) hfr T1.fr fl0 fun h4 held4 up4=>⟨held4,up4,h4,rfl⟩)) (fun _ s4 z4=>?_) fun _ _ z=>z.1.elim
  obtain⟨⟨held4,up4,h4,rfl⟩,dI4⟩:=z4
  refine wpAny_mono (ds_any ds_setFlight dI4 (wpAny_landsW (Q:=fun _ s5=>Heap.FlyingW B (X.env :: X.outer) a (.ref C) (.ref tt) s5.heap∧h4.UpToSlots s5.heap∧∃h5,s5={ s2 with heap:=h5 }) (E:=fun _ _=>False) held4 fun h5 fl5 up5=>⟨fl5,up5,h5,rfl⟩)) (fun _ s5 z5=>?_) fun _ _ z=>z.1.elim
  obtain⟨⟨fl5,up5,h5,rfl⟩,dI5⟩:=z5
  have sl5:=(sl.up I1 up4).up I1 up5
  have fl5':Heap.FlyingW B X.stack a (.ref C) (.ref tt) h5:=by rw [T1.st];exact fl5
  have J5:Inv X pins σ (upd H' a (IsExc a C od)) { s2 with heap:=h5 }:=landed (s3:={ s2 with heap:=h5 }) dI5 I1 os bare fl5' G sl5
  refine wpAny_handleBy_cons (codeAny_handlers_test (ld_glob (X:=X.hdl a) (J5.hdl a) hg hm ?_ hd)) (by intro q;cases q)
  obtain⟨oe,vs,ho,hoc,_⟩:=fl5.first
  refine matches_ok kc J5.kIn ho hoc ?_
  refine codeAny_handlers_suite_as (wpAny_mono (ds_any ds_setFlight dI5 (lands_againW (Q:=fun _ s6=>Heap.FlyingW B (X.env :: X.outer) a (.ref C) (.ref tt) s6.heap∧h5.UpToSlots s6.heap∧∃h6,s6={ s2 with heap:=h6 }) (E:=fun _ _=>False) fl5 fun h6 fl6 up6=>⟨fl6,up6,h6,rfl⟩)) (fun _ s6 z6=>?_) fun _ _ z=>z.1.elim)
  obtain⟨⟨fl6,up6,h6,rfl⟩,dI6⟩:=z6
  have fl6':Heap.FlyingW B X.stack a (.ref C) (.ref tt) h6:=by rw [T1.st];exact fl6
  have J6:Inv X pins σ (upd H' a (IsExc a C od)) { s2 with heap:=h6 }:=landed (s3:={ s2 with heap:=h6 }) dI6 I1 os bare fl6' G (sl5.up I1 up6)
  refine store_ok (X:=X.hdl a) (J6.hdl a) hN hi (.inl hl) (v:=.ref a) rfl (fun s7 J7=>?_) (.inr hl)
  refine wpAny_mono (hs a pins s7 _ _ (D.drop i) J7 (qh a (exc_new I1 fl G sl).2)) (fun f s8 z=>?_) fun _ _ z=>False.elim z
  cases f with
  | next=>obtain⟨σ',H3,I3,q⟩:=z;exact gone (I3.unhdl I.ok) hN hi hl fun s9 I9=>⟨_,H3,I9,q⟩
  | brk=>obtain⟨σ',H3,I3,q⟩:=z;exact gone (I3.unhdl I.ok) hN hi hl fun s9 I9=>⟨_,H3,I9,q⟩
  | cont=>obtain⟨σ',H3,I3,q⟩:=z;exact gone (I3.unhdl I.ok) hN hi hl fun s9 I9=>⟨_,H3,I9,q⟩
  | ret u=>obtain⟨v,σ',H3,I3,r,q⟩:=z;exact gone (I3.unhdl I.ok) hN hi hl fun s9 I9=>⟨v,_,H3,I9,r,q⟩
end
open PySem PySem.Spec PySem.W PyProof.Rows Builtin Builtin.ObjectAttr Builtin.Getset_descriptor
def ExAt (x C:Addr) (h:Heap):Prop:=∃o vs,h.get? x=some o∧o.cls=.ref C∧o.data=.fields vs
theorem exAt_ty {x C:Addr} (M:Model) (h:Heap) (p:ExAt x C h):Looks M h (typeOf (.ref x)) (.ref C):=by
 obtain⟨o,vs,h1,h2,_⟩:=p
 exact h2 ▸ (Looks.ld h1).andThen .now
structure ExCls (K:W.Frag) (C:Addr):Prop where
 x:ExcO K C
 ga:findIn K (.ref C) "__getattribute__" = some (some (.builtin "BaseException.__getattribute__"))
 gn:findIn K (.ref C) "__getattr__" = some none
 cl:findIn K (.ref C) "__class__" = some (some (.builtin "object.__class__"))
 ob:mroIn K C (.type "object")=some true
 be:mroIn K C (.type "BaseException")=some true
 dg:specialIn K (.builtin "object.__class__") "__get__" = some (some (.builtin "getset_descriptor.__get__"))
 dt:takesIn K (.builtin "object.__class__")=some true
section
variable {prog:Program} {w:World} {A:Around} {E:Value->Shared->Prop} {s:Shared} {K:W.Frag} {x C:Addr}
theorem exc_class_get {tp:Value} {R:Result->Shared->Prop} (X:K.In s.heap) (p:ExAt x C s.heap) (hm:mroIn K C (.type "object")=some true) (h:R (.ok (.ret (.ref C))) s):
  codeAny (model prog w) A (.call (.builtin "getset_descriptor.__get__") ⟨[.builtin "object.__class__",.ref x,tp],[]⟩) R s:=by
 obtain⟨h0,g0,d0,t0,o0⟩:=s
 have L0:=exAt_ty (model prog w) h0 p;have L1:=looks_mroIn (M:=model prog w) X hm
 refine codeAny_call_builtin KF.slot_gs.plain KF.entry_gs (KF.slot_gs.check _ _ _ _ _ _ _ _ KF.type_class (KF.args_gs _ _ _) ?_);unfold Builtin.«getset_descriptor.__get__» descrGet;rw [dga_obj]
 refine wpAny_bind (wpAny_pure ?_);unfold descrGetter descrCheckInstance descrNameAndClass isInstance;simp only [KF.owner_class];repeat lk
 refine⟨Code.quiet_builtin _ (by decide +kernel),codeAny_builtin KF.entry_class ?_⟩;unfold Builtin.«object.__class__» shownTypeOf;repeat lk
 exact h
theorem exc_check {nameV:Value} {M:Model} {Q:Unit->Shared->Prop} (X:K.In s.heap) (p:ExAt x C s.heap) (hm:mroIn K C (.type "BaseException")=some true) (hq:Q () s):
  wpAny M A (checkBuiltinCall "BaseException.__getattribute__" ⟨[.ref x,nameV],[]⟩) Q E s:=by
 have e1:builtinKind "BaseException.__getattribute__" = some .slot:=by decide +kernel
 have e2:splitId "BaseException.__getattribute__" = some ("BaseException","__getattribute__"):=by decide +kernel
 have e3:=PySem.F.args_bexc_ga (.ref x) nameV
 obtain⟨h0,g0,d0,t0,o0⟩:=s
 have L0:=exAt_ty M h0 p;have L1:=looks_mroIn (M:=M) X hm
 simp only [checkBuiltinCall,e1,e2];refine wpAny_bind ?_;unfold isInstance
 repeat (first | lk | wp_step)
 exact hq
theorem exc_find {M:Model} (X:K.In s.heap) (k:ExCls K C):Looks M s.heap (find (.ref x) (.ref C) "__class__") (.bind (.builtin "getset_descriptor.__get__") (.builtin "object.__class__")):=by
 have L1:=looks_findIn (M:=M) X k.cl
 have L2:=looks_specialIn (M:=M) X k.dg
 have L3:=looks_takesIn (M:=M) X k.dt
 exact L1.andThen ((show Looks M s.heap (getOf (some (.builtin "object.__class__"))) (some (.builtin "getset_descriptor.__get__")) from L2).andThen ((show Looks M s.heap (dataDescriptor? (some (.builtin "object.__class__")) (some (.builtin "getset_descriptor.__get__"))) (some (.builtin "getset_descriptor.__get__",.builtin "object.__class__")) from L3.andThen .now).andThen (Looks.tag .now)))
theorem exc_class_attr {Q:Option Value->Shared->Prop} (X:K.In s.heap) (p:ExAt x C s.heap) (k:ExCls K C) (h:Q (some (.ref C)) { s with toks:=s.toks+1 }):
  wpAny (model prog w) A (getAttr? (.ref x) "__class__") Q E s:=by
 have L0:=exAt_ty (model prog w) s.heap p
 have L1:=looks_findIn (M:=model prog w) X k.ga
 have L2:=looks_findIn (M:=model prog w) X k.gn
 have L3:=exc_find (M:=model prog w) (x:=x) X k
 obtain⟨h0,g0,d0,t0,o0⟩:=s
 unfold getAttr? getAttrBy? getAttrBy
 refine wpAny_bind (wpAny_mkText (wpAny_bind (wpAny_attempt (wpAny_holding (wpAny_bind (L0.at (wpAny_bind (L1.at ?_))))))))
 dsimp only
 rw [if_neg (by rw [show (Value.builtin "BaseException.__getattribute__" == Value.builtin "object.__getattribute__")=false by decide +kernel,Bool.and_false];decide)]
 unfold getAttrByItsOwn hookBefore
 refine wpAny_bind ?_
 rw [if_pos (show onTheHeap (Value.ref C)=true from rfl)]
 refine L2.at ?_
 refine wpAny_bind (wpAny_attempt (wpAny_holding ?_))
 unfold callGetattribute boundAndCalled
 rw [if_neg (by decide)]
 refine wpAny_bind (wpAny_of_eq (PySem.F.attr_ValueError.ga.bind (.ref x)) ?_)
 refine wpAny_call (codeAny_call_builtin PySem.F.attr_ValueError.ga.plain PySem.F.entry_bexc_ga (exc_check (s:=⟨h0,g0,d0,t0+1,o0⟩) X p k.be ?_))
 unfold Builtin.«object.__getattribute__»
 iterate 23 (first | lk | wp_step)
 refine wpAny_call (exc_class_get (s:=⟨h0,g0,d0,t0+1,o0⟩) X p k.ob ?_)
 exact wpAny_pure (handed_on rfl (wpAny_pure h))
theorem kitx_exc (k:ExCls K C):KitX K (.ref x) (.ref C) (ExAt x C) where
 ty:=fun M h _ p=>exAt_ty M h p
 it:=fun _ h X _=>by
  obtain⟨_,_,_,_,_,_,_,_,_,_,_,_,_,_,_,_,lk,_⟩:=k.x
  intro A' Q' E' s' kk q
  unfold isType loadHead
  exact wpAny_bind (wpAny_loadPart (kk _ _ (X _ _ lk)) (wpAny_pure q))
 ne:=fun h tp dd its n sl X htp=>by
  obtain⟨_,_,_,_,_,_,_,_,_,_,_,_,_,_,_,_,lk,_⟩:=k.x
  refine Bool.eq_false_iff.mpr fun q=>?_
  have e:C=tp:=Value.ref.inj (beq_iff_eq.mp q)
  subst e
  have z:=congrArg (fun o:Option Obj=>o.map (·.cls)) ((X _ _ lk).symm.trans htp)
  simp [excClassObj] at z
 ca:=fun X p h=>exc_class_attr X p k h
end
open PySem PySem.Spec PySem.W PyProof.Rows Builtin Builtin.ObjectAttr Builtin.Getset_descriptor
section
variable {prog:Program} {w:World} {A:Around} {E:Value->Shared->Prop} {s:Shared} {K:W.Frag} {x C:Addr}
theorem exc_get {ox:Obj} {vs:Array Value} {od:Option Obj} {name:Str} {v:Value} {expr:Bool} {Q:Value->Shared->Prop} (X:K.In s.heap) (I:InstAt s.heap x ox C od) (hd:ox.data=.fields vs) (k:ExCls K C)
  (hf:findObj K C od name=some (.value v)) (hh:handedIn v=true) (h:Q v { s with toks:=s.toks+1 }):wpAny (model prog w) A (getAttr (.ref x) name expr) Q E s:=by
 have p:ExAt x C s.heap:=⟨ox,vs,I.at_,I.cls,hd⟩
 have L0:=exAt_ty (model prog w) s.heap p
 have L1:=looks_findIn (M:=model prog w) X k.ga
 have L2:=looks_findIn (M:=model prog w) X k.gn
 have L3:=looks_find (M:=model prog w) X I hf
 obtain⟨h0,g0,d0,t0,o0⟩:=s
 unfold getAttr getAttrBy
 refine wpAny_bind (wpAny_mkText (wpAny_holding (wpAny_bind (L0.at (wpAny_bind (L1.at ?_))))))
 dsimp only
 rw [if_neg (by rw [show (Value.builtin "BaseException.__getattribute__" == Value.builtin "object.__getattribute__")=false by decide +kernel,Bool.and_false];decide)]
 unfold getAttrByItsOwn hookBefore
 refine wpAny_bind ?_
 rw [if_pos (show onTheHeap (Value.ref C)=true from rfl)]
 refine L2.at ?_
 refine wpAny_bind (wpAny_attempt (wpAny_holding ?_))
 unfold callGetattribute boundAndCalled
 rw [if_neg (by rw [show onTheHeap (Value.builtin "BaseException.__getattribute__")=false from rfl,Bool.and_false];decide)]
 refine wpAny_bind (wpAny_of_eq (PySem.F.attr_ValueError.ga.bind (.ref x)) ?_)
 refine wpAny_call (codeAny_call_builtin PySem.F.attr_ValueError.ga.plain PySem.F.entry_bexc_ga (exc_check (s:=⟨h0,g0,d0,t0+1,o0⟩) X p k.be ?_))
 unfold Builtin.«object.__getattribute__»
 iterate 23 (first | lk | wp_step)
 exact handed_on hh h
def excMro:List Value->Bool
 | [.type a,.type b,.type c,.type d]=>a == "ValueError" && b == "Exception" && c == "BaseException" && d == "object"
 | .ref _ :: r=>excMro r
 | _=>false
theorem excMro_four {a b c d:String} (e:excMro [.type a,.type b,.type c,.type d]=true):[Value.type a,.type b,.type c,.type d]=[.type "ValueError",.type "Exception",.type "BaseException",.type "object"]:=by
 simp only [excMro,Bool.and_eq_true,beq_iff_eq] at e
 obtain⟨⟨⟨rfl,rfl⟩,rfl⟩,rfl⟩:=e
 rfl
theorem refuse_exc (self:Value):∀{l:List Value},excMro l=true->refuseLoop self "__setattr__" l=pure ()
 | [.type a,.type b,.type c,.type d],e=>by rw [excMro_four e];exact PySem.F.store_ValueError.passes self
 | .ref c :: r,e=>by rw [refuseLoop_ref];exact refuse_exc self (l:=r) (by unfold excMro at e;exact e)
theorem excMro_has:∀{l:List Value},excMro l=true->l.contains (.type "object")=true∧l.isEmpty=false
 | [.type a,.type b,.type c,.type d],e=>by rw [excMro_four e];exact⟨rfl,rfl⟩
 | .ref c :: r,e=>by
  have:=(excMro_has (l:=r) (by unfold excMro at e;exact e)).1
  exact⟨by rw [List.contains_cons,this,Bool.or_true],rfl⟩
def excLays (K:W.Frag) (C:Addr):Bool:=(clsIn K C).any fun cd=>excMro cd.mro && cd.hasDict
structure Laid (h h':Heap) (x:Addr) (ox:Obj) (name:Str) (v:Value):Prop where
 obj:h'.get? x=some { ox with dict:=some h.objs.size }
 ns:h'.Ns1 h.objs.size (fun y=>if y=name then some v else none)
 keep:∀b o,b≠x->h.get? b=some o->h'.get? b=some o
theorem exc_osa {ox:Obj} {vs:Array Value} {name:Str} {tk:Tok} {v:Value} {R:Result->Shared->Prop} (X:K.In s.heap) (I:InstAt s.heap x ox C none) (hdt:ox.data=.fields vs) (hp:excLays K C=true) (ht:takerIn K C name=some none)
  (h:∀h' t',Laid s.heap h' x ox name v->R (.ok (.ret .none)) { s with heap:=h',toks:=t' }):
  codeAny (model prog w) A (.call (.builtin "object.__setattr__") ⟨[.ref x,.str name tk,v],[]⟩) R s:=by
 have SF:=PySem.F.store_object
 obtain⟨cd,hc,ho⟩:=any_some hp
 obtain⟨ho,hh⟩:=Bool.and_eq_true_iff.mp ho
 obtain⟨has,ne⟩:=excMro_has ho
 have sub:Looks (model prog w) s.heap (isInstance (.ref x) (.type "object")) true:=I.type.andThen (looks_mroIn X (by unfold mroIn;rw [hc,Option.bind_some,if_neg (by rw [ne];decide),has]))
 refine codeAny_call_builtin SF.slot.plain SF.entry (@check_slot (model prog w) _ _ s "object.__setattr__" "object" "__setattr__" (.ref x) [.str name tk,v] [] _ SF.kind SF.split sub (SF.args (.ref x) (.str name tk) v) ?_)
 obtain⟨attr,ha,hr⟩:=Option.bind_eq_some_iff.mp ht
 have hm:Looks (model prog w) s.heap (mroOf (.ref C)) cd.mro:=(looks_clsIn X hc).andThen .now
 have L3:Looks (model prog w) s.heap (storeTaker? attr) none:=by
  cases attr with
  | none=>exact .now
  | some a=>
   obtain⟨b,hb,e⟩:=Option.map_eq_some_iff.mp hr
   refine (looks_takesIn X hb).andThen ?_
   cases b with
   | true=>cases e
   | false=>exact .now
 rw [osa_eq,refuse_eq]
 refine wpAny_bind (wpAny_bind (I.type.here (wpAny_bind (hm.here ?_))))
 rw [refuse_exc _ ho]
 refine wpAny_pure (wpAny_bind (I.type.here (wpAny_bind ((looks_findIn X ha).here (wpAny_bind (L3.here ?_))))))
 have hx:=I.at_
 have hcl:=I.cls
 have hdn:ox.dict=none:=by
  have:=I.dict
  cases e:ox.dict with
  | none=>rfl
  | some dx=>rw [e] at this;exact this.elim
 show wpAny _ _ (storeInOwnDict (.ref x) (.ref C) (.str name tk) name v _) _ _ _
 unfold storeInOwnDict
 refine wpAny_bind (wpAny_pure (wpAny_bind ?_))
 unfold ownDictForStores instanceDict
 refine wpAny_bind (wpAny_loadPart hx ?_)
 rw [hcl]
 dsimp only
 refine wpAny_bind ((looks_clsIn X hc).here ?_)
 rw [hh,hdn,hdt]
 show wpAny _ _ (alloc { cls:=Value.type "dict",data:=Data.dict #[] } >>= fun d=>update x (fun o=>{ cls:=o.cls,dict:=some d,data:=o.data,slots:=o.slots }) >>= fun _=>dictMade (Value.ref C) x d) _ _ _
 have hx1:(s.heap.push { cls:=Value.type "dict",data:=Data.dict #[] }).get? x=some ox:=Heap.get?_push_of_some _ hx
 have xs:x≠s.heap.objs.size:=Nat.ne_of_lt (Heap.lt_size hx)
 refine wpAny_bind (wpAny_alloc' (wpAny_bind (wpAny_update' hx1 (wpAny_pure ?_))))
 obtain⟨G,hG⟩:∃G,G=(s.heap.push { cls:=Value.type "dict",data:=Data.dict #[] }).update x fun o=>{ cls:=o.cls,dict:=some s.heap.objs.size,data:=o.data,slots:=o.slots }:=⟨_,rfl⟩
 have gx:G.get? x=some { ox with dict:=some s.heap.objs.size }:=by
  rw [hG]
  refine Heap.get?_update_self (fun o=>{ cls:=o.cls,dict:=some s.heap.objs.size,data:=o.data,slots:=o.slots }) hx1 ?_
  obtain⟨oc,od,odt,osl⟩:=ox
  cases hdt;rfl
 have gd:G.get? s.heap.objs.size=some { cls:=Value.type "dict",data:=Data.dict #[] }:=by
  rw [hG,Heap.get?_update_other _ _ xs]
  exact Heap.get?_push_at rfl rfl
 have gk:∀b o,b≠x->s.heap.get? b=some o->G.get? b=some o:=fun b o hb e=>by
  rw [hG,Heap.get?_update_other _ _ (Ne.symm hb)]
  exact Heap.get?_push_of_some _ e
 rw [← hG]
 clear hG
 have gn:G.Ns s.heap.objs.size (fun _=>none):=⟨_,#[],_,gd,rfl,fun e he=>absurd he (by simp),fun _=>rfl⟩
 show wpAny _ _ (storeInDict s.heap.objs.size (.str name tk) name v) _ _ _
 unfold storeInDict newKeyGuard
 refine wpAny_bind (wpAny_pure (wpAny_bind (wpAny_nsSet1 (Heap.Ns1.of_empty gn) fun h' hn' hs=>?_)))
 obtain⟨oD,esD,epD,hoD,hdD,hcD⟩:=hn'.count (Within.cons name v Within.nil)
 refine wpAny_bind (wpAny_lookBehind hoD (by rw [hdD];exact pastItsLine_dict (Nat.le_trans hcD (by rw [List.length_cons,List.length_nil,sizeLine_eq];omega))) (wpAny_pure ?_))
 exact h h' _ ⟨(hs.2 x xs).trans gx,hn',fun b o hb e=>(hs.2 b (Nat.ne_of_lt (Heap.lt_size e))).trans (gk b o hb e)⟩
theorem exc_set {ox:Obj} {vs:Array Value} {name:Str} {v:Value} {Q:Unit->Shared->Prop} (X:K.In s.heap) (I:InstAt s.heap x ox C none) (hdt:ox.data=.fields vs) (hp:excLays K C=true) (ht:takerIn K C name=some none)
  (hs:findIn K (.ref C) "__setattr__" = some (some (.builtin "object.__setattr__"))) (h:∀h' t',Laid s.heap h' x ox name v->Q () { s with heap:=h',toks:=t' }):
  wpAny (model prog w) A (setAttr (.ref x) name v) Q E s:=
 set_plain X I hs (exc_osa (s:={ s with toks:=s.toks+1 }) X I hdt hp ht fun h' t' l=>h h' t' l)
end
open PySem PySem.Spec PySem.W PyProof.Rows Builtin Builtin.ObjectAttr Builtin.Getset_descriptor
def excInI (K:W.Frag) (C fI:Addr):Bool:=match K.lookup C with
 | some ⟨.type ty,_,.cls cd,sl⟩=>(match cd.mro,sl.toList with
  | .ref C1 :: bm,[_,_,_,_,some (.builtin n),_]=>ty == "type" && (C1 == C && (n == "ValueError.__new__" && (!cd.hasDel && (tailIn K bmV bm && (nsOkIn K cd.ns && nsIn K cd.ns "__init__" == some (some (.ref fI)))))))
  | _,_=>false)
 | _=>false
theorem excI_obj {K:W.Frag} {C fI:Addr} (q:excInI K C fI=true):∃bm N nm qn bs hd sn sub ab col dd k0 k1 k2 k3 k5,
  K.lookup C=some (excClassObj nm qn C N bs bm hd sn sub ab col dd k0 k1 k2 k3 k5 "ValueError.__new__")∧tailIn K bmV bm=true∧nsOkIn K N=true∧nsIn K N "__init__" = some (some (.ref fI)):=by
 unfold excInI at q
 split at q
 ·rename_i ty dd cd sl ho
  split at q
  ·rename_i C1 bm k0 k1 k2 k3 n k5 hm hs
   simp only [Bool.and_eq_true,beq_iff_eq,Bool.not_eq_true'] at q
   obtain⟨rfl,rfl,rfl,q3,q4,q5,q6⟩:=q
   obtain⟨nm,bs,mro,ns,qn,hd,sn,sub,ab,col,del⟩:=cd
   simp only at hm q3 q5 q6
   subst hm q3
   obtain⟨l⟩:=sl
   simp only at hs
   subst hs
   exact⟨bm,ns,nm,qn,bs,hd,sn,sub,ab,col,dd,k0,k1,k2,k3,k5,ho,q4,q5,q6⟩
  ·cases q
 ·cases q
theorem ExcO.ofI {K:W.Frag} {C fI:Addr} (q:excInI K C fI=true):ExcO K C:=by
 obtain⟨a1,a2,a3,a4,a5,a6,a7,a8,a9,b1,b2,b3,b4,b5,b6,b7,h,t,_⟩:=excI_obj q
 exact⟨a1,a2,a3,a4,a5,a6,a7,a8,a9,b1,b2,b3,b4,b5,b6,b7,h,t⟩
section
variable {prog:Program} {w:World} {A:Around} {E:Value->Shared->Prop} {h:Heap} {g:Array GenState} {d:Drawn} {t:Nat} {os:OsState} {K:W.Frag} {C fI:Addr}
theorem exc_made_init {rest:List Value} {Q:Fin->Shared->Prop} (X:K.In h) (q:excInI K C fI=true) (hf:typeIn K (.ref fI)=some (.type "function")) (hi:findIn K (.ref C) "__init__" = some (some (.ref fI)))
  (hq:∀h' e,h.objs.size<=e->Heap.MadeExcOf h h' e (.ref C) rest->wpAny (model prog w) A (call (.ref fI) (.ref e :: rest)) (fun r s'=>r=.none∧Q (.done (.ret (.ref e))) s') E ⟨h',g,d,t,os⟩) (hrest:rest.length<=sizeLine):
  wpAny (model prog w) A (Builtin.«type.__call__» ⟨.ref C :: rest,[]⟩) Q E ⟨h,g,d,t,os⟩:=by
 obtain⟨bm,N,nm,qn,bs,hdc,sn,sub,ab,col,dd,k0,k1,k2,k3,k5,lk,tl,ok,ni⟩:=excI_obj q
 have F:=PySem.F.excBase_ValueError
 have hC:=X _ _ lk
 have T:OwnTail h bmV bm:=tail_of_in X tl
 have ns0:h.Ns N (h.nsMap N):=.of_isNs (isNs_of_in X ok)
 repeat (first | with_reducible refine wpAny_loadPart_at hC ?_ | with_reducible refine wpAny_madeBy_exc hC ?_ | wp_step)
 refine codeAny_call_builtin_code (Code.quiet_builtin _ F.quiet) (wpAny_check_new_subU F F.hasB T hC ?_)
 refine codeAny_exc_new_subU F F.hasB F T hC ?_ hrest
 show wpAny _ _ _ _ _ _
 have kp:∀b o,h.get? b=some o->((h.push { cls:=.type "tuple",data:=.seq rest.toArray }).push { cls:=.ref C,data:=.fields #[.ref h.objs.size,.none,.none,.none,.bool false,.none] }).get? b=some o:=fun b o e=>Heap.get?_push_of_some _ (Heap.get?_push_of_some _ e)
 have ge:((h.push { cls:=.type "tuple",data:=.seq rest.toArray }).push { cls:=.ref C,data:=.fields #[.ref h.objs.size,.none,.none,.none,.bool false,.none] }).get? (h.objs.size+1)=some { cls:=.ref C,data:=.fields #[.ref h.objs.size,.none,.none,.none,.bool false,.none] }:=by heap_get
 have gt:((h.push { cls:=.type "tuple",data:=.seq rest.toArray }).push { cls:=.ref C,data:=.fields #[.ref h.objs.size,.none,.none,.none,.bool false,.none] }).get? h.objs.size=some { cls:=.type "tuple",data:=.seq rest.toArray }:=Heap.get?_push_of_some _ (Heap.get?_push_at rfl rfl)
 have made:Heap.MadeExcOf h ((h.push { cls:=.type "tuple",data:=.seq rest.toArray }).push { cls:=.ref C,data:=.fields #[.ref h.objs.size,.none,.none,.none,.bool false,.none] }) (h.objs.size+1) (.ref C) rest:=⟨kp,Heap.get?_none_of_le (Nat.le_succ _),h.objs.size,ge,Heap.get?_none_of_le (Nat.le_refl _),gt⟩
 generalize (h.push { cls:=.type "tuple",data:=.seq rest.toArray }).push { cls:=.ref C,data:=.fields #[.ref h.objs.size,.none,.none,.none,.bool false,.none] }=h1 at kp ge made ⊢
 have X1:K.In h1:=fun b o e=>kp b o (X b o e)
 have L0:Looks (model prog w) h1 (typeOf (.ref (h.objs.size+1))) (.ref C):=(Looks.ld ge).andThen .now
 have cc:(Value.ref C :: bm).contains (.ref C)=true:=by simp
 have hC1:=kp _ _ hC
 have L1:=looks_findIn (M:=model prog w) X1 hi
 have L2:=looks_typeIn (M:=model prog w) X1 hf
 unfold isInstance
 refine wpAny_bind (wpAny_bind (L0.at (wpAny_isSubtype_exc hC1 ?_)))
 rw [cc]
 show wpAny _ _ (holding _ (callSpecial? _ _ _ _) >>= _) _ _ _
 unfold callSpecial? specialOf
 refine wpAny_bind (wpAny_holding (wpAny_bind (wpAny_bind (L0.at (L1.at ?_)))))
 show wpAny _ _ (holding _ (bindSpecial (.ref fI) (.ref (h.objs.size+1)) >>= _)) _ _ _
 unfold bindSpecial
 refine wpAny_holding (wpAny_bind (wpAny_bind (L2.at ?_)))
 rw [if_pos (by decide)]
 refine wpAny_pure (wpAny_bind (wpAny_mono (hq h1 _ (Nat.le_succ _) made) (fun r s' z=>?_) fun _ _ z=>z))
 obtain⟨rfl,z⟩:=z
 exact wpAny_pure (wpAny_pure z)
theorem exc_call_init {rest:List Value} {Q:Value->Shared->Prop} (X:K.In h) (q:excInI K C fI=true) (hf:typeIn K (.ref fI)=some (.type "function")) (hi:findIn K (.ref C) "__init__" = some (some (.ref fI)))
  (hq:∀h' e,h.objs.size<=e->Heap.MadeExcOf h h' e (.ref C) rest->wpAny (model prog w) (A.under (.builtin "type.__call__" ⟨.ref C :: rest,[]⟩)) (call (.ref fI) (.ref e :: rest)) (fun r s'=>r=.none∧Q (.ref e) s') E ⟨h',g,d,t,os⟩) (hrest:rest.length<=sizeLine):
  wpAny (model prog w) A (call (.ref C) rest) Q E ⟨h,g,d,t,os⟩:=by
 obtain⟨bm,N,nm,qn,bs,hdc,sn,sub,ab,col,dd,k0,k1,k2,k3,k5,lk,_⟩:=excI_obj q
 have hC:=X _ _ lk
 have f1:=tc_lookup
 have f2:=tc_bind (.ref C)
 have hT:(⟨h,g,d,t,os⟩:Shared).TypeIs (.ref C) "type" := ⟨_,hC,rfl⟩
 refine wpAny_call (codeAny_of_tree ?_)
 show wpAny _ _ (callAny (.ref C) _) _ _ _
 repeat (any_goals (first | assumption | with_reducible refine wpAny_loadPart_at hC ?_ | wp_step))
 refine⟨rfl,?_⟩
 exact codeAny_call_builtin_at (Code.quiet_builtin _ (by decide +kernel)) entry_typeCall (wpAny_check_type_call_sub hC (exc_made_init X q hf hi (fun h' e hl hm=>hq h' e hl hm) hrest))
theorem exc_init_call {s:Shared} {e t0:Addr} {oe:Obj} {v:Value} {Q:Value->Shared->Prop} (X:K.In s.heap) (q:ExcO K C) (he:s.heap.get? e=some oe) (hc:oe.cls=.ref C) (hd:oe.data=.fields #[.ref t0,.none,.none,.none,.bool false,.none])
  (hq:Q .none { s with heap:=(s.heap.push { cls:=.type "tuple",data:=.seq #[v] }).update e (Obj.mapFields (·.setIfInBounds 0 (.ref s.heap.objs.size))) }):
  wpAny (model prog w) A (call (.builtin "ValueError.__init__") [.ref e,v]) Q E s:=by
 obtain⟨bm,N,nm,qn,bs,hdc,sn,sub,ab,col,dd,k0,k1,k2,k3,k5,lk,tl⟩:=q
 have F:=PySem.F.excBase_ValueError
 have hC:=X _ _ lk
 have T:OwnTail s.heap bmV bm:=tail_of_in X tl
 obtain⟨h,g,d,t,os⟩:=s
 obtain⟨oc,odi,oda,osl⟩:=oe
 dsimp only at hc hd
 subst hc hd
 refine wpAny_call (codeAny_call_builtin F.init.plain F.initEntry (wpAny_check_init_subU F T hC he rfl ?_))
 dsimp only at he hq
 have he1:(h.push { cls:=.type "tuple",data:=.seq #[v] }).get? e=some { cls:=.ref C,dict:=odi,data:=.fields #[.ref t0,.none,.none,.none,.bool false,.none],slots:=osl }:=Heap.get?_push_of_some _ he
 wp_walk
 exact hq
end
open PySem PySem.Spec PySem.W PyProof.Rows
structure XI (K:W.Frag) (C fI:Addr):Prop where
 x:excInI K C fI=true
 fn:typeIn K (.ref fI)=some (.type "function")
 hi:findIn K (.ref C) "__init__" = some (some (.ref fI))
 sa:findIn K (.ref C) "__setattr__" = some (some (.builtin "object.__setattr__"))
 la:excLays K C=true
 kp:keepIn K (.ref C)=true
structure XF (K:W.Frag) (C:Addr) (name:Str):Prop where
 ta:takerIn K C name=some none
 fi:findIn K (.ref C) name=some none
 hd:hasDictIn K C=true
structure XC (K:W.Frag) (C:Addr):Prop where
 ga:specialIn K (.ref C) "__getattribute__" = some (some (.builtin "type.__getattribute__"))
 rd:readsIn K C (.type "type")=true
 fc:findCls K (.ref C) (.type "type") "__init__" = some (.val (.builtin "ValueError.__init__"))
def IsNew (a C:Addr) (od:Option Addr:=none):HO:=.ext fun h=>∃oe t,h.get? a=some oe∧oe.cls=.ref C∧oe.data=.fields #[.ref t,.none,.none,.none,.bool false,.none]∧oe.dict=od
section
variable {X:Cx} {pins:List (Addr×Obj)} {σ:St} {H:Hp} {s:Shared} {a C d:Addr} {od:Option Addr}
theorem new_ok {P:Program} {w:World} {H:Hp} {h:Heap} {oe:Obj} {t:Addr} (h1:h.get? a=some oe) (h2:oe.cls=.ref C) (h3:oe.data=.fields #[.ref t,.none,.none,.none,.bool false,.none]) (h4:oe.dict=od):ObjOk P w H h a (IsNew a C od):=
 ⟨⟨oe,t,h1,h2,h3,h4⟩,⟨oe,h1⟩,fun _ _ ⟨o1,t1,p,q,r⟩ k=>⟨o1,t1,k _ p,q,r⟩⟩
theorem new_get (I:Inv X pins σ H s) (h:H a=some (IsNew a C od)):∃oe t,s.heap.get? a=some oe∧oe.cls=.ref C∧oe.data=.fields #[.ref t,.none,.none,.none,.bool false,.none]∧oe.dict=od:=(show ObjOk X.prog X.w H s.heap a (IsNew a C od) from I.hok a _ h).1
theorem exc_gets (I:Inv X pins σ H s) (h:H a=some (IsExc a C od)):∃oe vs,s.heap.get? a=some oe∧oe.cls=.ref C∧oe.data=.fields vs∧oe.dict=od:=(show ObjOk X.prog X.w H s.heap a (IsExc a C od) from I.hok a _ h).1
theorem look_ns {h:Heap} {d:Addr} {m:Str->Option Value} {o:Obj} {name:Str} (n:h.Ns1 d m) (e:h.get? d=some o):lookIn name o=some (m name):=by
 obtain⟨o',es,ep,e1,e2,e3,eu,e4⟩:=n
 rw [e] at e1;cases e1
 unfold lookIn
 rw [e2]
 dsimp only
 have h4:(es.find? fun x=>x.key.isStr name).map (·.val)=m name:=e4 name
 have nr:es.toList.any (·.refKey)=false:=by
  rw [List.any_eq_false]
  intro x hx z
  obtain⟨n,tk,hk⟩:=e3 x (by simpa using hx)
  unfold DictEntry.refKey at z
  rw [hk] at z
  cases z
 rw [nr,Array.find?_toList]
 cases hf:es.find? fun x=>x.key.isStr name with
 | none=>rw [hf] at h4;exact congrArg some h4
 | some x=>rw [hf] at h4;exact congrArg some h4
def tXfld (C:Addr) (te:TE) (f:Str):TE:=fun σ H Q=>te σ H fun x H1=>∃a d fs i,x=.ref a∧H1 a=some (IsExc a C (some d))∧H1 d=some (.xd fs)∧fs.lookup f=some (.int i)∧Q (.int i) H1
theorem pe_xfld {e:Expr} {te:TE} {f:Str} {pos:Pos} (k:ExCls X.K C) (xf:XF X.K C f) (he:PE X e te) (hb:attributeBase e f X.env (eval e X.env)=eval e X.env):PE X (.Attribute e f pos) (tXfld C te f):=by
 intro pins s σ H Q I h
 refine attr_of hb (thn (he pins s σ H _ I h) fun u s1 ⟨x,H1,I1,rx,a,d,fs,i,ex,ea,ed,l,q⟩=>?_)
 subst ex
 obtain rfl:u=Value.ref a:=rx
 obtain⟨oe,vs,h1,h2,h3,h4⟩:=exc_gets I1 ea
 obtain⟨mA,nA,rA⟩:=(show ObjOk X.prog X.w H1 s1.heap d (.xd fs) from I1.hok d _ ed)
 have rv:=rA f
 rw [l] at rv
 cases em:mA f with
 | none=>rw [em] at rv;exact rv.elim
 | some u=>
  rw [em] at rv
  obtain⟨o,es,ep,hd,_⟩:=id nA
  have hl:=look_ns (name:=f) nA hd
  rw [em] at hl
  have In:InstAt s1.heap a oe C (some o):=⟨h1,h2,by unfold notCls;rw [h3],by rw [h4];exact hd⟩
  obtain⟨tk,rfl⟩:=rv
  exact exc_get I1.kIn In h3 k (findObj_own xf.hd xf.fi rfl hl) rfl ⟨.int i,H1,I1.tok _,⟨tk,rfl⟩,q⟩
theorem a_xfld {te:TE} {f:Str} {Q:VK}:tXfld C te f σ H Q=te σ H fun x H1=>∃a d fs i,x=.ref a∧H1 a=some (IsExc a C (some d))∧H1 d=some (.xd fs)∧fs.lookup f=some (.int i)∧Q (.int i) H1:=rfl
def sXfld (C:Addr) (ta tv:TE) (f:Str):TS:=fun D σ H=>tv σ H fun y H1=>ta σ H1 fun x H2=>∃a,x=.ref a∧H2 a=some (IsNew a C none)∧∀d,H2 d=none->D.nx σ (upd (upd H2 a (IsNew a C (some d))) d (.xd [(f,y)]))
theorem a_sxfld {ta tv:TE} {f:Str} {D:Ends}:sXfld C ta tv f D σ H=tv σ H fun y H1=>ta σ H1 fun x H2=>∃a,x=.ref a∧H2 a=some (IsNew a C none)∧∀d,H2 d=none->D.nx σ (upd (upd H2 a (IsNew a C (some d))) d (.xd [(f,y)])):=rfl
theorem ps_xfld {fI:Addr} {o value:Expr} {ta tv:TE} {f:Str} {pos pos':Pos} (xi:XI X.K C fI) (xf:XF X.K C f) (ha:PE X o ta) (hv:PE X value tv) (hs:swapsWith value (some (.Attribute o f pos')) pos.line X.env=pure false):
  PS X (.Assign [.Attribute o f pos'] value pos) (sXfld C ta tv f):=by
 intro pins s σ H D I h
 refine plainObj_wpAny_Assign_Attribute (thn (hv pins s σ H _ I h) fun u s1 ⟨y,H1,I1,ry,q⟩=>thn (ha pins s1 σ H1 _ I1 q) fun ov s2 ⟨x,H2,I2,rx,a,ex,ea,q2⟩=>?_) hs
 subst ex
 obtain rfl:ov=Value.ref a:=rx
 obtain⟨oe,t,h1,h2,h3,h4⟩:=new_get I2 ea
 have In:InstAt s2.heap a oe C none:=⟨h1,h2,by unfold notCls;rw [h3],by rw [h4];trivial⟩
 refine exc_set I2.kIn In h3 xi.la xf.ta xi.sa fun h' t' L=>?_
 have hm:(s2.heap.update a fun o=>{ o with dict:=some s2.heap.objs.size }).get? a=some { oe with dict:=some s2.heap.objs.size }:=by
  refine Heap.get?_update_self (fun o:Obj=>{ o with dict:=some s2.heap.objs.size }) h1 ?_
  obtain⟨oc,od,odt,osl⟩:=oe
  cases h3;rfl
 have J1:Inv X pins σ (upd H2 a (IsNew a C (some s2.heap.objs.size))) { s2 with heap:=s2.heap.update a fun o=>{ o with dict:=some s2.heap.objs.size },toks:=s2.toks }:=
  I2.write (x:=a) (e:=a) (by rw [ea];exact True.intro) (.inl rfl) (fun b u hb e=>by rw [Heap.get?_update_other _ _ (Ne.symm hb)];exact e) ⟨_,hm⟩ (new_ok hm h2 h3 rfl)
 have sz:(s2.heap.update a fun o=>{ o with dict:=some s2.heap.objs.size }).objs.size=s2.heap.objs.size:=by
  unfold Heap.update;simp
 have nd:H2 s2.heap.objs.size=none:=I2.hok.fresh (Nat.le_refl _)
 have J2:Inv X pins σ (upd (upd H2 a (IsNew a C (some s2.heap.objs.size))) s2.heap.objs.size (.xd [(f,y)])) { s2 with heap:=h',toks:=t' }:=
  J1.laid (fun b o e=>by
   by_cases hb:b=a
   ·subst hb
    rw [hm] at e;cases e
    exact L.obj
   ·rw [Heap.get?_update_other _ _ (Ne.symm hb)] at e
    exact L.keep b o hb e) (Nat.le_of_eq sz) ⟨_,L.ns,fun g=>by
   by_cases z:g=f
   ·rw [if_pos z,z]
    have:List.lookup f [(f,y)]=some y:=by simp [List.lookup]
    rw [this];exact ry
   ·rw [if_neg z]
    have:List.lookup g [(f,y)]=none:=by
     show (match g == f with | true=>some y | false=>List.lookup g [])=none
     rw [beq_eq_false_iff_ne.mpr z];rfl
    rw [this];exact True.intro⟩
 exact⟨σ,_,J2,q2 _ nd⟩
theorem upd_id {o:HO} (h:H a=some o):upd H a o=H:=by
 funext b
 by_cases z:b=a
 ·rw [z,upd_same,h]
 ·rw [upd_ne z]
def tBInit (C:Addr) (ta:TA):TE:=fun σ H Q=>ta σ H fun vs H1=>∃e od z,vs=[.ref e,.str z]∧H1 e=some (IsNew e C od)∧Q .non H1
theorem a_binit {ta:TA} {Q:VK}:tBInit C ta σ H Q=ta σ H fun vs H1=>∃e od z,vs=[.ref e,.str z]∧H1 e=some (IsNew e C od)∧Q .non H1:=rfl
theorem pe_binit {B fI:Addr} {x:Str} {np apos pos:Pos} {e0 e1:Expr} {ta:TA} {pl:Sem Bool} (hg:Gl X x) (hm:X.mg x=some (.ref B)) (xc:XC X.K B) (xi:XI X.K C fI) (ha:PA X [e0,e1] ta) (hdb:(x == ("__debug__" : Str))=false:=by decide)
  (he:starEach [e0,e1] X.env=(false,eval e0 X.env) :: starEach [e1] X.env:=by rfl) (hpl:(backTo pos (starEach [e1] X.env)).any (·.1)=false:=by rfl)
  (ht:eval (.Call (.Attribute (.Name x np) "__init__" apos) [e0,e1] [] pos) X.env=(do
   let ov ← eval (.Name x np) X.env
   standAt apos.atName
   let (f,first) ← holding [ov] (getMethod ov "__init__" pl)
   callWith pos f first (backTo pos (starEach [e0,e1] X.env)) (backToKw pos (keywordEach [] X.env))):=by rfl):
  PE X (.Call (.Attribute (.Name x np) "__init__" apos) [e0,e1] [] pos) (tBInit C ta):=by
 intro pins s σ H Q I h
 refine methodCall_KW (pl:=pl) (ld_glob I hg hm ?_ hdb) ht
 refine method_cls I.kIn xc.ga (cls_value I.kIn xc.rd xc.fc rfl ?_)
 refine PyProof.Rows.callWith_builtin1 (thn (ha pos pins _ σ H _ (I.tok _) h) fun us s2 ⟨vs,H2,I2,r,e,od,z,ev,en,q⟩=>?_) he hpl
 subst ev
 cases r with | cons r1 r=>cases r with | cons r2 r=>cases r with | nil=>
 cases (show _=Value.ref e from r1)
 obtain⟨oe,t,h1,h2,h3,h4⟩:=new_get I2 en
 refine exc_init_call I2.kIn (ExcO.ofI xi.x) h1 h2 h3 ?_
 rename_i v2 _
 have k1:∀b u,s2.heap.get? b=some u->(s2.heap.push { cls:=.type "tuple",data:=.seq #[v2] }).get? b=some u:=fun b u q=>Heap.get?_push_of_some _ q
 have I3:Inv X pins σ H2 { s2 with heap:=s2.heap.push { cls:=.type "tuple",data:=.seq #[v2] },toks:=s2.toks }:=I2.kept k1
 have h1':=k1 _ _ h1
 have hm:=Heap.get?_update_self (Obj.mapFields (·.setIfInBounds 0 (.ref s2.heap.objs.size))) h1' (Obj.isFreed_of_fields (Obj.data_mapFields h3 _))
 have J:Inv X pins σ (upd H2 e (IsNew e C od)) { s2 with heap:=(s2.heap.push { cls:=.type "tuple",data:=.seq #[v2] }).update e (Obj.mapFields (·.setIfInBounds 0 (.ref s2.heap.objs.size))),toks:=s2.toks }:=
  I3.write (x:=e) (e:=e) (by rw [en];exact True.intro) (.inl rfl) (fun b u hb q=>by rw [Heap.get?_update_other _ _ (Ne.symm hb)];exact q) ⟨_,hm⟩
   (new_ok (t:=s2.heap.objs.size) hm ((Obj.cls_mapFields _ _).trans h2) ((Obj.data_mapFields h3 _).trans rfl) (by
    obtain⟨oc,odi,oda,osl⟩:=oe
    cases h3
    exact h4))
 rw [upd_id en] at J
 exact⟨.non,H2,J,rfl,q⟩
end
section
variable {M:Model} {A:Around} {E:Value->Shared->Prop} {env:Env} {K:W.Frag} {C:Addr}
theorem raise_made {s:Shared} {x:Sem Value} {Q:Flow->Shared->Prop} (k:ExcO K C) (hh:A.handled=none)
  (h:wpAny M A x (fun v s1=>∃e t od sl,v=.ref e∧K.In s1.heap∧s1.heap.get? e=some { cls:=.ref C,dict:=od,data:=.fields #[.ref t,.none,.none,.none,.bool false,.none],slots:=sl }∧E (.ref e) s1) E s):
  wpAny M A (raiseStmt env (some x) none) Q E s:=by
 obtain⟨bm,N,nm,qn,bs,hdc,sn,sub,ab,col,dd,k0,k1,k2,k3,k5,lk,tl⟩:=k
 unfold raiseStmt
 refine wpAny_bind (wpAny_mono h (fun v s1 h1=>?_) fun _ _ x=>x)
 obtain⟨e,t,od,sl,rfl,X,he,hE⟩:=h1
 have T:OwnTail s1.heap bmV bm:=tail_of_in X tl
 have hC:=X _ _ lk
 have hcB:(Value.ref C :: bm).contains (.type "BaseException")=true:=by rw [List.contains_cons,T.hasType PySem.F.excBase_ValueError.hasBase,Bool.or_true]
 obtain⟨hp,g,d,tk,os⟩:=s1
 repeat (first | with_reducible refine wpAny_loadPart_at he ?_ | with_reducible refine wpAny_loadPart_at hC ?_ | (with_reducible refine wpAny_isSubtype_exc hC ?_;rw [hcB]) | wp_step)
 exact wpAny_raiseNew_none hh hE
end
def del (H:Hp) (e:Addr):Hp:=fun b=>if b=e then none else H b
def ThrowsI (X:Cx) (E:XK):Prop:=∀(pins:List (Addr×Obj)) (σ:St) (H:Hp) (s:Shared) (e C:Addr) (od:Option Addr),Inv X pins σ H s->H e=some (IsNew e C od)->X.s₀.heap.get? e=none->E (.ref C) od (del H e)->X.xe (.ref e) s
theorem throwI {P:Program} {w:World} {K:W.Frag} {mg:Str->Option Value} {base:Heap} {N:List Str} {qual:Str} {scope:Scope} {f:Addr} {cd:Value} {A:Around} {outer:List Env} {s0:Shared} {H0:Hp} {E:XK}:
  ThrowsI (cxOf (CXE P w) P w K mg base N qual scope f cd A outer s0 H0 E) E:=fun pins σ H s a C od I hn h0 q=>by
 obtain⟨oe,t,h1,h2,h3,h4⟩:=new_get I hn
 have hfs:∀b∈frs (envOfC qual scope s0.heap.objs.size f cd :: outer),H b=none:=I.stkFree
 have hin:∀env∈(envOfC qual scope s0.heap.objs.size f cd :: outer),∀b,env.frame=some b->b∈frs (envOfC qual scope s0.heap.objs.size f cd :: outer):=fun env he b hb=>List.mem_filterMap.mpr ⟨env,he,hb⟩
 have hst:s.heap.FunFrames base (envOfC qual scope s0.heap.objs.size f cd :: outer):=I.stack
 have noE:∀b:Addr,b∉(cxOf (CXE P w) P w K mg base N qual scope f cd A outer s0 H0 E).ex:=fun b z=>absurd (show b∈([]:List Addr) from z) (by simp)
 have hin':∀env∈(envOfC qual scope s0.heap.objs.size f cd :: outer),∀b,env.frame=some b->b∈a :: frs (envOfC qual scope s0.heap.objs.size f cd :: outer):=fun env he b hb=>List.mem_cons_of_mem _ (hin env he b hb)
 have ne0:∀b o,s0.heap.get? b=some o->b≠a:=fun b o e z=>by
  have z0:s0.heap.get? a=none:=h0
  rw [z,z0] at e;cases e
 have nof:∀b o,s0.heap.get? b=some o->b∉frs outer->b∉a :: frs (envOfC qual scope s0.heap.objs.size f cd :: outer):=fun b o e hb z=>by
  rcases List.mem_cons.mp z with z | z
  ·exact ne0 b o e z
  ·exact nofr0 I e hb z
 obtain⟨B,hB⟩:∃B,B=hideAll s.heap (a :: frs (envOfC qual scope s0.heap.objs.size f cd :: outer)):=⟨_,rfl⟩
 have hBa:B.get? a=none:=by
  rw [hB]
  exact hideAll_none _ (List.mem_cons_self ..)
 refine wpAny_mono (ds_any (s:=s) ds_leaving (⟨_,h1,h4⟩:DictIs s.heap a od) (wpAny_leaving_firstW (base:=B) (Q:=fun _ s2=>∃h2,Heap.LeftW B (envOfC qual scope s0.heap.objs.size f cd :: outer) a (.ref C) (.ref t) s.heap h2∧s2={ s with heap:=h2 }) (E:=fun _ _=>False)
  I.ok.frames (by rw [hB];exact funFrames_hide hst hin') rfl h1 (fun b o z=>by rw [hB] at z;exact of_hideAll _ z) hBa h3 rfl rfl fun h2' L=>⟨h2',by rw [h2] at L;exact L,rfl⟩)) (fun _ s2 z=>?_) fun _ _ z=>z.1.elim
 obtain⟨⟨hh2,⟨L1,⟨_,_,L2⟩,L3,L4⟩,rfl⟩,dI⟩:=z
 have dn:∀{b:Addr},H b=none->del H a b=none:=fun {b} z=>by
  unfold del
  split
  ·rfl
  ·exact z
 have de:∀{b:Addr} {o:HO},H b=some o->(∀φ,o≠.ext φ)->del H a b=some o:=fun {b o} z n=>by
  unfold del
  rw [if_neg ?_]
  ·exact z
  ·intro zz
   rw [zz,hn] at z
   cases z
   exact n _ rfl
 refine⟨a,t,C,del H a,B,od,rfl,I.os,I.bare,⟨L1,hBa,L2,L3⟩,dI,⟨fun b o e n hb=>?_,fun b o e hb=>?_,fun b o e n=>dn (I.base.free b o e n (noE b)),fun b xs z=>de (I.base.tups b xs z) (fun _=>nofun),fun b o u z=>de (I.base.frzs b o u z) (fun _=>nofun),fun b ps z=>?_,?_⟩,fun b o e hb=>?_,q⟩
 ·rw [hB];exact hideAll_get _ (I.base.keep b o e n hb (noE b)) (nof b o e hb)
 ·obtain⟨o',e'⟩:=I.base.there b o e (noE b)
  exact⟨o',by rw [hB];exact hideAll_get _ e' (nof b o e hb)⟩
 ·obtain⟨more,z⟩:=I.base.tbls b ps z
  exact⟨more,de z (fun _=>nofun)⟩
 ·intro b o e
  have hb:b≠a:=fun z=>by
   have z2:del H a b=none:=if_pos z
   rw [z2] at e;cases e
  have eb:H b=some o:=(if_neg hb:del H a b=H b).symm.trans e
  rw [hB]
  refine (I.hok b o eb).stay (fun c u hc q=>hideAll_get _ q fun z=>?_) (fun c z=>de z fun _=>nofun) fun c xs z=>de z fun _=>nofun
  rcases List.mem_cons.mp z with z | z
  ·rcases hc with hc | hc
   ·exact hb (hc.symm.trans z)
   ·rw [z,hn] at hc;cases hc
  ·have n:=hfs c z
   rcases hc with hc | hc
   ·rw [hc,eb] at n;cases n
   ·rw [hc] at n;cases n
 ·obtain⟨_,o',ho',hd⟩:=I.ok.funs.mem hb
  rw [show (cxOf (CXE P w) P w K mg base N qual scope f cd A outer s0 H0 E).s₀.heap.get? b=some o from e] at ho';cases ho'
  obtain⟨sl,e1⟩:=I.base.slot b o e (I.ok.frf b hb) hb (noE b)
  obtain⟨sl',e2⟩:=L4 b _ e1 hd
  exact⟨sl',e2⟩
def tRaiseI (C:Addr) (sp:Sp) (dvs:List V) (ta:TA) (E E1:XK):TS:=fun _ σ H=>ta σ H fun vs H1=>vs.length<=sizeLine∧∀e,H1 e=none->sp (.ref e :: (vs++dvs)) (upd H1 e (IsNew e C none)) (fun v H2=>v=.non∧∃od,H2 e=some (IsNew e C od)∧E (.ref C) od (del H2 e)) E1
theorem a_raiseI {C:Addr} {sp:Sp} {dvs:List V} {ta:TA} {E E1:XK} {D:Ends} {σ:St} {H:Hp}:tRaiseI C sp dvs ta E E1 D σ H=ta σ H fun vs H1=>vs.length<=sizeLine∧∀e,H1 e=none->sp (.ref e :: (vs++dvs)) (upd H1 e (IsNew e C none)) (fun v H2=>v=.non∧∃od,H2 e=some (IsNew e C od)∧E (.ref C) od (del H2 e)) E1:=rfl
theorem ps_raiseI {X:Cx} {CX:CXT} {k:Nat} {fI:Addr} {fd:FuncData} {ps:List Str} {sp:Sp} {dvs:List V} {ds:List Value} {E E1:XK} {x:Str} {C:Addr} {e0:Expr} {ta:TA} {np cpos pos:Pos} (hc:X.calm=true) (hr:ThrowsI X E) (hg:Gl X x) (hm:X.mg x=some (.ref C)) (xi:XI X.K C fI)
  (F:FnOk X.prog X.w X.K X.mg X.base CX k fI fd ps sp) (rm:Room (k+1) X.A) (hb:Binds X.K fd ps ds) (hd:Vals dvs ds) (hx:Passes CX X E1) (ha:PA X [e0] ta)
  (hdb:(x == ("__debug__" : Str))=false:=by decide) (he:starEach [e0] X.env=(false,eval e0 X.env) :: starEach [] X.env:=by rfl) (hpl:(backTo cpos (starEach [] X.env)).any (·.1)=false:=by rfl):
  PS X (.Raise (some (.Call (.Name x np) [e0] [] cpos)) none pos) (tRaiseI C sp dvs ta E E1):=by
 intro pins s σ H D I h
 rw [arm_exec_Raise]
 refine wpAny_bind (wpAny_standAt (raise_made (ExcO.ofI xi.x) (I.ok.hd hc) ?_))
 refine wpAny_bind (wpAny_mono (Q:=fun v s1=>∃e t od sl,v=.ref e∧X.K.In s1.heap∧s1.heap.get? e=some { cls:=.ref C,dict:=od,data:=.fields #[.ref t,.none,.none,.none,.bool false,.none],slots:=sl }∧X.xe (.ref e) s1) (E:=X.xe) ?_ (fun v s3 h3=>wpAny_bind (wpAny_standAt (wpAny_pure h3))) fun _ _ x=>x)
 refine wpAny_Call_Name_kw (ld_glob I hg hm ?_ hdb)
 refine callWith_K (h₀:=X.base) I.ok.mod.kin xi.kp (thn (ha cpos pins s σ H _ I h) fun us s1 ⟨vs,H1,I1,r,q1,q⟩=>⟨I1.kIn,?_⟩) he hpl
 have hus:us.length<=sizeLine:=by rw [← r.length];exact q1
 obtain⟨h0,g0,d0,t0,o0⟩:=s1
 refine exc_call_init (A:=X.A) I1.kIn xi.x xi.fn xi.hi (fun h' e hl hm'=>?_) hus
 have hq:=q e (I1.hok.fresh hl)
 obtain⟨t,ht,_⟩:=hm'.there
 have I2:Inv X pins σ (upd H1 e (IsNew e C none)) { heap:=h',gens:=g0,drawn:=d0,toks:=t0,os:=o0 }:=I1.laid (t':=t0) hm'.keeps hl (new_ok ht rfl rfl rfl)
 have r2:Vals (V.ref e :: (vs++dvs)) (Value.ref e :: (us++ds)):=.cons rfl (r.append hd)
 have hlen:(Value.ref e :: us++ds).length=ps.length:=by
  have z:=r2.length
  rw [F.len _ _ _ _ hq] at z
  exact z.symm
 have nw:X.s₀.heap.get? e=none:=by
  have z:=Nat.le_trans I1.sz hl
  exact Heap.get?_none_of_le z
 refine wpAny_call (codeAny_mono (F.run _ X.stack _ _ ⟨Value.ref e :: us,[]⟩ (Value.ref e :: (us++ds)) _ _ E1 (rm.make C us []) (I2.env0.make C us []) (hb _ (Value.ref e :: us) I2.kIn hlen) r2 hq) fun r s' hq'=>?_)
 cases r with
 | error e=>exact hx pins σ _ _ e s' I2 hq'
 | ok fl=>
  cases fl with
  | ret u=>
   obtain⟨v,H',I3,rv,ev,od,en,q3⟩:=I2.after hq'
   subst ev
   obtain⟨oe,t2,a1,a2,a3,a4⟩:=new_get I3 en
   refine⟨rv,e,t2,od,oe.slots,rfl,I3.kIn,?_,hr pins σ H' s' e C od I3 en nw q3⟩
   obtain⟨oc,odi,oda,osl⟩:=oe
   dsimp only at a2 a3 a4 ⊢
   subst a2 a3 a4
   exact a1
  | next=>exact False.elim hq'
  | brk=>exact False.elim hq'
  | cont=>exact False.elim hq'
section
variable {X:Cx} {k:Nat} {f C:Addr} {fd:FuncData} {ps:List Str} {sp:Sp} {x:Str} {p pos:Pos} {e:Expr} {es:List Expr} {t:TA}
theorem px_make (M:Mk X.K C f) (F:FnOk X.prog X.w X.K X.mg X.base (CXE X.prog X.w) k f fd ps sp) (hr:Room (k+1) X.A) (hg:Gl X x) (hm:X.mg x=some (.ref C)) (hb:Binds X.K fd ps []) (ha:PA X.nox (e :: es) t)
  (hdb:(x == ("__debug__" : Str))=false:=by decide) (he:starEach (e :: es) X.env=(false,eval e X.env) :: starEach es X.env:=by rfl) (hpl:(backTo pos (starEach es X.env)).any (·.1)=false:=by rfl):
  PXE X (.Call (.Name x p) (e :: es) [] pos) (fun E=>tMake C sp [] E t):=by
 intro pins s σ H Q E I h
 refine wpAny_Call_Name_kw (ld_glob I hg hm ?_ hdb)
 refine PySem.W.callWith_K (h₀:=X.base) I.ok.mod.kin M.kp (wpAny_mono (ha pos pins s σ H _ (I.wish _) h) (fun us s1 ⟨vs,H1,I1,r,q⟩=>⟨I1.kIn,?_⟩) fun _ _ z=>False.elim z) he hpl
 have J1:Inv X pins σ H1 s1:=I1.unwish
 have hq:=q (s1.heap.objs.size+1) s1.heap.objs.size (J1.hok.fresh (Nat.le_succ _)) (J1.hok.fresh (Nat.le_refl _)) (Nat.ne_of_lt (Nat.lt_succ_self _))
 have I2:=Inv.made (C:=C) J1
 have r2:Vals (V.ref (s1.heap.objs.size+1) :: (vs++[])) (Value.ref (s1.heap.objs.size+1) :: (us++[])):=.cons rfl (r.append .nil)
 have hl:(Value.ref (s1.heap.objs.size+1) :: us++[]).length=ps.length:=(r2.length.symm.trans (F.len _ _ _ _ hq))
 refine wpAny_call (make_map (f:=f) J1.kIn M.makes M.init (beq_iff_eq.mp M.fn) (codeAny_mono (F.run _ X.stack _ _ ⟨Value.ref (s1.heap.objs.size+1) :: us,[]⟩ (Value.ref (s1.heap.objs.size+1) :: (us++[])) _ _ E (hr.make C us [])
  (I2.env0.make C us []) (by have z:=hb _ (Value.ref (s1.heap.objs.size+1) :: us) I2.kIn hl;rw [List.cons_append] at z;exact z) r2 hq) fun r s' hq'=>?_))
 cases r with
 | error e=>exact⟨_,_,I2,hq'⟩
 | ok fl=>
  cases fl with
  | ret u=>
   obtain⟨v,H',I3,rv,ev,q3⟩:=I2.after hq'
   subst ev
   exact⟨rv,⟨V.ref (s1.heap.objs.size+1),H',I3,rfl,q3⟩⟩
  | next=>exact False.elim hq'
  | brk=>exact False.elim hq'
  | cont=>exact False.elim hq'
theorem px_one {a:Stmt} {t:XK->TS} {pins:List (Addr×Obj)} {s:Shared} {σ:St} {H:Hp} {D:Ends} {E:XK} (ha:PX X a t) (I:Inv X pins σ H s) (h:t E D σ H):
  wpAny (model X.prog X.w) X.A (execs [a] X.env) (SP X pins D) (fun x s'=>∃H1 s1,Inv X pins σ H1 s1∧CXE X.prog X.w X.stack H1 s1 E x s') s:=
 wpAny_execs_cons (thn (ha pins s σ H D _ I h) fun f s1 q=>by
  cases f with
  | next=>exact wpAny_execs_nil q
  | ret v=>exact q
  | brk=>exact q
  | cont=>exact q)
theorem px_if {c:Expr} {a b:Stmt} {tc:TT} {t u:XK->TS} (hc:PT X.nox c tc) (ha:PX X a t) (hb:PX X b u):PX X (.If c [a] [b] pos) (fun E=>tIfS tc (t E) (u E)):=by
 intro pins s σ H D E I h
 refine wpAny_If (wpAny_mono (hc pins s σ H _ (I.wish _) h) (fun d s1 ⟨H1,I1,q1⟩=>?_) fun _ _ z=>False.elim z)
 cases d with
 | true=>exact wpAny_mono (px_one ha I1.unwish q1) (fun _ _ z=>z) fun _ _ z=>z
 | false=>exact wpAny_mono (px_one hb I1.unwish q1) (fun _ _ z=>z) fun _ _ z=>z
end
def tFst2 (x y:Str) (te:TE):TE:=fun σ H Q=>(Str.empty++x).length<=sizeLine∧te σ H fun v H1=>∃i,v=.int i∧i.natAbs.log2 < 1920∧(Str.empty++x++Str.ofString (toString i)).length<=sizeLine∧(Str.empty++x++Str.ofString (toString i)++y).length<=sizeLine∧Q (.str (Str.empty++x++Str.ofString (toString i)++y)) H1
theorem a_fst2 {x y:Str} {te:TE} {σ:St} {H:Hp} {Q:VK}:tFst2 x y te σ H Q=((Str.empty++x).length<=sizeLine∧te σ H fun v H1=>∃i,v=.int i∧i.natAbs.log2 < 1920∧(Str.empty++x++Str.ofString (toString i)).length<=sizeLine∧(Str.empty++x++Str.ofString (toString i)++y).length<=sizeLine∧Q (.str (Str.empty++x++Str.ofString (toString i)++y)) H1):=rfl
theorem pe_fst2 {X:Cx} {x y:Str} {j j2:Nat} {e:Expr} {te:TE} {p1 p2 p3 p4:Pos} (he:PE X e te) (hev:evalEach [.Constant (.str x) j p1,.FormattedValue e (-1) none p2,.Constant (.str y) j2 p4] X.env=[eval (.Constant (.str x) j p1) X.env,eval (.FormattedValue e (-1) none p2) X.env,eval (.Constant (.str y) j2 p4) X.env]:=by rfl):
  PE X (.JoinedStr [.Constant (.str x) j p1,.FormattedValue e (-1) none p2,.Constant (.str y) j2 p4] p3) (tFst2 x y te):=by
 intro pins s σ H Q I h
 refine wpAny_JoinedStr ?_
 rw [hev]
 refine Calls.Constant_str ⟨x,_,rfl,?_⟩
 obtain⟨l1,hx⟩:_∧_:=h
 have h2:=he pins { s with toks:=s.toks+1 } σ H _ (I.tok _) hx
 refine⟨l1,?_⟩
 refine wpAny_FormattedValue_plain (wpAny_mono h2 (fun v s₁ z=>?_) fun _ _ y=>y)
 obtain⟨v',H1,I1,rv,i,rfl,hd,l2,l3,q⟩:=z
 obtain⟨t,rfl⟩:=rv
 refine wpAny_formatField_int hd ⟨_,_,rfl,l2,?_⟩
 refine Calls.Constant_str ⟨y,_,rfl,l3,l3,.str _,H1,((I1.tok _).tok _).tok _,⟨_,rfl⟩,q⟩
theorem sl_listK {X:Cx} {K:W.Frag} (h:X.K=K):SlR X (rSlL K):=by subst h;exact sl_list
theorem op_eqDK {X:Cx} {K:W.Frag} (h:X.K=K) (hu:X.A.units+64 < cLine):OpR X (compareOp .Eq) (fun x y H Q=>∃da db,DV K H x da∧DV K H y db∧da.canLay0=true∧db.canLay0=true∧da.depth<=64∧Q (.bl (PyData.eqv da db)) H):=by subst h;exact op_eqD hu
def XInst (K:W.Frag) (H:Hp) (v:V) (D:Value) (b:Bool):Prop:=(∃a C od,v=.ref a∧H a=some (IsExc a C od)∧ExCls K C∧PySem.W.kitOne K (.ref C) D=some b)∨(v=.non∧PySem.W.kitOne K (.type "NoneType") D=some b)
def clsV:V->Option Value
 | .ref d=>some (.ref d)
 | .ty n=>some (.type n)
 | _=>none
theorem call_isinstX {X:Cx}:CallR X (.builtin "isinstance") (fun xs H Q=>∃v vD D b,xs=[v,vD]∧clsV vD=some D∧XInst X.K H v D b∧Q (.bl b) H):=by
 intro pins s σ H xs us Q I rv h
 obtain⟨v,vD,D,b,rfl,rD,hE,q⟩:=h
 cases rv with
 | cons r rr=>
  cases rr with
  | cons r' rr=>
   cases rr
   rename_i u1 u
   have eD:D=u:=by
    cases vD with
    | ref d=>cases rD;exact (show _=Value.ref d from r').symm
    | ty n=>cases rD;exact (show _=Value.type n from r').symm
    | _=>cases rD
   rw [← eD]
   rcases hE with ⟨a,C,od,rfl,hE,kC,e⟩ | ⟨rfl,e⟩
   ·cases (show _=Value.ref a from r)
    obtain⟨⟨oe,vs,p1,p2,p3,_⟩,_,_⟩:=(show ObjOk X.prog X.w H s.heap a (IsExc a C od) from I.hok a _ hE)
    have p:ExAt a C s.heap:=⟨oe,vs,p1,p2,p3⟩
    exact PySem.W.kia_one (kitx_exc kC) I.kIn p e (fun z=>nomatch z) fun tk=>⟨.bl b,H,I.tok _,rfl,q⟩
   ·cases (show _=Value.none from r)
    exact PySem.W.kia_one PySem.W.kitx_none I.kIn True.intro e (fun z=>nomatch z) fun tk=>⟨.bl b,H,I.tok _,rfl,q⟩
section
variable {X:Cx} {e st:Expr} {te:TE} {lo hi:Option Expr} {tl th ts:TO} {pos p2:Pos}
end
theorem compLoop_if {prog:Program} {w:World} {A:Around} {R:Result->Shared->Prop} {s:Shared} {elt target iter cnd:Expr} {scope:Scope} {pos:Pos} {it acc:Value} {env:Env} (I:Nat->Shared->Prop)
  (turn:∀n s (E:Value->Shared->Prop),I n s->wpAny (model prog w) A (pyNext it) (fun r s₁=>match r with
   | none=>R (.ok .next) s₁
   | some v=>wpAny (model prog w) A (letOwnedTupleGo target it v) (fun _ s₂=>wpAny (model prog w) A (assign target env v) (fun _ s₃=>wpAny (model prog w) A (isTrue cnd env (eval cnd env)) (fun b s₄=>if b=true then wpAny (model prog w) A (eval elt env) (fun x s₅=>
     wpAny (model prog w) A (call (.builtin "list.append") [acc,x]) (fun _ s₆=>∃m,m < n∧I m s₆) E s₅) E s₄ else ∃m,m < n∧I m s₄) E s₃) E s₂) E s₁) E s)
  (n:Nat) (h:I n s):
  codeAny (model prog w) A (.compLoop (.ListComp elt [⟨target,iter,[cnd],0⟩] scope pos) 0 it acc env) R s:=by
 refine codeAny_loop rfl I (fun n s hI=>?_) n h
 show wpAny _ _ ((compTurn (.ListComp elt [⟨target,iter,[cnd],0⟩] scope pos) 0 it acc env).onRaise (fun x=>do noteFrame x env;theTreesLotGoes x)) _ _ s
 refine wpAny_noted ?_
 unfold compTurn
 dsimp only [List.getElem?_cons_zero]
 refine wpAny_bind (wpAny_standAt (wpAny_bind (wpAny_mono (turn n s _ hI) (fun r s₁ h₁=>?_) fun _ _ h'=>h')))
 cases r with
 | none=>exact wpAny_pure h₁
 | some v=>
  refine wpAny_bind (thn h₁ fun _ s₂ h₂=>wpAny_bind (thn h₂ fun _ s₃ h₃=>wpAny_bind ?_))
  rw [List.forIn_cons,if_pos rfl]
  refine wpAny_bind (wpAny_bind (thn h₃ fun b s₄ h₄=>wpAny_pure ?_))
  dsimp only
  rw [List.forIn_nil]
  refine wpAny_pure ?_
  cases b with
  | true=>
   rw [if_pos rfl] at h₄ ⊢
   exact wpAny_bind (wpAny_bind (thn h₄ fun x s₅ h₅=>wpAny_bind (thn h₅ fun _ s₆ h₆=>wpAny_pure (wpAny_pure ⟨rfl,h₆⟩))))
  | false=>
   rw [if_neg (by decide)] at h₄ ⊢
   exact wpAny_pure ⟨rfl,h₄⟩
section
variable {X:Cx} {elt iter cnd:Expr} {x:Str} {px:Pos} {fv:List (Nat×Str)} {scope:Scope} {cl:List (Str×Addr)} {pos:Pos} {te:TE} {tt:TT} {wi:TI}
def CLoopIf (J:It) (fv:List (Nat×Str)) (tt:TT) (te:TE) (Q:VK) (σ:St) (H1:Hp) (D:Addr):Prop:=∃W:Nat->Nat->Hp->Prop,(∃m,W 0 m (upd H1 D (.lst [])))∧∀i m H,W i m H->
 (J.stop i H∧Q (.ref D) H)∨(J.go i H∧∃N:Hp->Prop,(∀H',N H'->∃m',m' < m∧W (i+1) m' H')∧∀v H',J.yld i H v H'->tt (bst fv σ (some v)) H' fun b Hb=>if b=true then te (bst fv σ (some v)) Hb fun y H2=>∃ys,H2 D=some (.lst ys)∧ys.length < sizeLine∧N (upd H2 D (.lst (ys++[y]))) else N Hb)
def tCompIf (fv:List (Nat×Str)) (wi:TI) (tt:TT) (te:TE):TE:=fun σ H Q=>wi σ H fun J H1=>∀D,H1 D=none->CLoopIf J fv tt te Q σ H1 D
theorem blk_runIf {pins:List (Addr×Obj)} {σ:St} {H:Hp} {s2:Shared} {it:Addr} {fp:List Addr} {tn:Nat->Heap->Prop} {J:It} {Q:VK} {E:Value->Shared->Prop} {RR:Value->Addr->Result->Shared->Prop}
  (hc:X.calm=true) (B:BlkOk X x fv scope cl) (hcn:∀C s H fp,PT (blk X x fv scope cl C s H fp) cnd tt) (he:∀C s H fp,PE (blk X x fv scope cl C s H fp) elt te) (I:Inv X pins σ H s2) (T:Turn X.prog X.w X.K (.Name x px) J fp it tn) (st:tn 0 s2.heap) (hf:∀b∈fp,FpOk X pins H b)
  (rd:∀D,H D=none->∃W:Nat->Nat->Hp->Prop,(∃m,W 0 m (upd H D (.lst [])))∧∀i m H,W i m H->
   (J.stop i H∧Q (.ref D) H)∨(J.go i H∧∃N:Hp->Prop,(∀H',N H'->∃m',m' < m∧W (i+1) m' H')∧∀v H',J.yld i H v H'->tt (bst fv σ (some v)) H' fun b Hb=>if b=true then te (bst fv σ (some v)) Hb fun y H2=>∃ys,H2 D=some (.lst ys)∧ys.length < sizeLine∧N (upd H2 D (.lst (ys++[y]))) else N Hb))
  (hRR:∀D C s' H' m',Inv X pins σ H' s'->FpOk X pins H' C->s'.heap.Ns C m'->Q (.ref D) H'->RR (.ref D) C (.ok .next) s'):
  wpAny (model X.prog X.w) X.A (newList []) (fun acc s₃=>wpAny (model X.prog X.w) X.A (newFunctionEnv scope X.env.globals cl [] X.env.qual none .none (some X.env)) (fun cenv s₄=>
   codeAny (model X.prog X.w) X.A (.compStart (.ListComp elt [⟨.Name x px,iter,[cnd],0⟩] scope pos) 0 (.ref it) acc { cenv with scope:=relabel scope X.env }) (RR acc cenv.locals) s₄) E s₃) E s2:=by
 refine wpAny_newObj_type ?_ (by show 0<=sizeLine;exact Nat.zero_le _)
 have hD:H s2.heap.objs.size=none:=I.hok.fresh (Nat.le_refl _)
 have I3:=I.lnew (ys:=[]) (its:=[]) (t':=s2.toks) .nil (Nat.zero_le _)
 generalize hs3:({ s2 with heap:=s2.heap.push { cls:=.type "list",data:=.seq ([]:List Value).toArray },toks:=s2.toks }:Shared)=s3 at I3
 have sz3:s3.heap.objs.size=s2.heap.objs.size+1:=by rw [← hs3];exact Heap.size_push ..
 have up3:∀b o,s2.heap.get? b=some o->s3.heap.get? b=some o:=fun b o e=>by rw [← hs3];exact Heap.get?_push_of_some _ e
 have hf3:∀b∈fp,FpOk X pins (upd H s2.heap.objs.size (.lst [])) b:=fun b hb=>by
  obtain⟨f0,r⟩:=hf b hb
  refine⟨?_,r⟩
  obtain⟨o,e,_⟩:=T.obj 0 _ st b hb
  rw [upd_ne (Nat.ne_of_lt (Heap.lt_size e))];exact f0
 have ltf:∀b∈fp,b < s2.heap.objs.size:=fun b hb=>by
  obtain⟨o,e,_⟩:=T.obj 0 _ st b hb
  exact Heap.lt_size e
 have st3:tn 0 s3.heap:=T.keep 0 _ _ st fun b _ o e=>up3 b o e
 obtain⟨W,⟨m0,w0⟩,turn⟩:=rd _ hD
 refine wpAny_newFunctionEnv B.nocell (by intro y hy;simp at hy) (fun h₁ hns₁ hsb₁=>?_) B.kind
 have hfC:∀b∈fp,b≠s3.heap.objs.size:=fun b hb=>Nat.ne_of_lt (by rw [sz3];exact Nat.lt_succ_of_lt (ltf b hb))
 have up4:∀b o,s3.heap.get? b=some o->h₁.get? b=some o:=fun b o e=>hsb₁.extBut b o (Nat.ne_of_lt (Heap.lt_size e)) (Heap.get?_push_of_some _ e)
 generalize hs4:({ s3 with heap:=h₁,toks:=s3.toks+([]:List (Str×Value)).length }:Shared)=s4
 have h4:s4.heap=h₁:=by rw [← hs4]
 have I4:Inv (blk X x fv scope cl s3.heap.objs.size s3 (upd H s2.heap.objs.size (.lst [])) fp) [] (bst fv σ none) (upd H s2.heap.objs.size (.lst [])) s4:=
  blk_start B I3 hf3 rfl hfC (by rw [← hs4]) (by rw [← hs4]) (fun b o e=>by rw [h4];exact up4 b o e) (by rw [h4];exact hns₁)
 have st4:tn 0 s4.heap:=by rw [h4];exact T.keep 0 _ _ st3 fun b _ o e=>up4 b o e
 have stat:∀{H':Hp},(∀b∈fp,H' b=none)->∀b∈fp,FpOk (blk X x fv scope cl s3.heap.objs.size s3 (upd H s2.heap.objs.size (.lst [])) fp) [] H' b:=fun {H'} hn b hb=>by
  obtain⟨_,f1,f2,f3,f4,f5⟩:=hf b hb
  refine⟨hn b hb,hfC b hb,fun z=>?_,.inl hb,fun y c e=>f4 y c (B.sub y c e),fun p hp=>absurd (show p∈([]:List (Addr×Obj)) from hp) (by simp)⟩
  rcases List.mem_cons.mp (I.stkSub b z) with q | q
  ·exact f1 q
  ·exact f2 q
 have loop:codeAny (model X.prog X.w) X.A (.compLoop (.ListComp elt [⟨.Name x px,iter,[cnd],0⟩] scope pos) 0 (.ref it) (.ref s2.heap.objs.size) (compEnvC scope cl s3.heap.objs.size X.env)) (RR (.ref s2.heap.objs.size) s3.heap.objs.size) s4:=by
  refine compLoop_if (fun n s'=>∃i H' o,Inv (blk X x fv scope cl s3.heap.objs.size s3 (upd H s2.heap.objs.size (.lst [])) fp) [] (bst fv σ o) H' s'∧tn i s'.heap∧(∀b∈fp,H' b=none)∧W i n H') ?_ m0
   ⟨0,_,none,I4,st4,fun b hb=>(hf3 b hb).1,w0⟩
  rintro n s5 E' ⟨i,H5,o5,I5,st5,fr5,w5⟩
  rcases turn i n H5 w5 with ⟨stop,q⟩ | ⟨go,N,hN,step⟩
  ·refine thn (T.done (blk X x fv scope cl s3.heap.objs.size s3 (upd H s2.heap.objs.size (.lst [])) fp) rfl rfl rfl hc i [] s5 _ H5 _ I5 (stat fr5) st5 stop) fun r s6 ⟨hr,I6⟩=>?_
   subst hr
   obtain⟨m6,hn6,_⟩:=I6.loc
   have J6:Inv X pins σ H5 s6:=blk_back I I6.hok I6.bare hD up3 I6.base (I6.os.trans (by rw [← hs3])) hf
   refine hRR _ _ s6 H5 m6 J6 ?_ hn6 q
   exact I3.fpOk (Nat.le_refl _) I6.free
  ·refine thn (T.item (blk X x fv scope cl s3.heap.objs.size s3 (upd H s2.heap.objs.size (.lst [])) fp) rfl rfl rfl hc i [] s5 _ H5 _ I5 (stat fr5) st5 go) fun r s6 ⟨u,hr,h6⟩=>?_
   subst hr
   refine thn h6 fun _ s7 ⟨v,H7,I7,r7,y7,st7,fr7⟩=>?_
   have I7':=I7.pinned (stat fr7) (T.obj _ _ st7)
   refine blk_store B I7' r7 fun s8 I8=>?_
   have c8:=hcn _ _ _ _ _ s8 _ H7 _ I8 (step v H7 y7)
   refine wpAny_mono c8 (fun bb sb ⟨Hb,Ib,qb⟩=>?_) fun _ _ z=>False.elim z
   cases bb with
   | false=>
    rw [if_neg (by decide)] at qb
    show (if false=true then _ else _)
    rw [if_neg (by decide)]
    obtain⟨m',hm,w9⟩:=hN _ qb
    refine⟨m',hm,i+1,_,some v,Ib.unpinned,T.keep _ _ _ st7 fun b hb o e=>(Ib.pin (b,o) (List.mem_append_right _ (List.mem_append_right _ (mem_pinsAt hb e)))).1,fun b hb=>?_,w9⟩
    obtain⟨o,e,_⟩:=T.obj _ _ st7 b hb
    exact (Ib.pin (b,o) (List.mem_append_right _ (List.mem_append_right _ (mem_pinsAt hb e)))).2.1
   | true=>
    rw [if_pos rfl] at qb
    show (if true=true then _ else _)
    rw [if_pos rfl]
    have e8:=he _ _ _ _ _ sb _ Hb _ Ib qb
    refine wpAny_mono e8 (fun y s9 ⟨yv,H9,I9,r9,ys,hD9,hz,n9⟩=>?_) fun _ _ z=>False.elim z
    have a9:=blk_tail (E':=E') T (fun _ _ z=>z) st7 I9 r9 hD9 hz n9 hN
    refine wpAny_mono a9 (fun _ s10 zz=>?_) fun _ _ z=>z
    obtain⟨m',hm,H10,I10,t10,f10,w9⟩:=zz
    exact⟨m',hm,i+1,H10,_,I10,t10,f10,w9⟩
 exact codeAny_compStart_list loop (T.self _ 0 _ _ _ st4 loop)
theorem pe_lcompIf (hc:X.calm=true) (B:BlkOk X x fv scope cl) (hi:PI X (.Name x px) iter wi) (hcn:∀C s H fp,PT (blk X x fv scope cl C s H fp) cnd tt) (he:∀C s H fp,PE (blk X x fv scope cl C s H fp) elt te)
  (hs:∀v,foldedSetIterable iter X.env v=pure v:=by intro _;rfl):PE X (.ListComp elt [⟨.Name x px,iter,[cnd],0⟩] scope pos) (tCompIf fv wi tt te):=by
 intro pins s σ H Q I h
 rw [eval_ListComp]
 refine wpAny_comprehension_free (use:=none) rfl hs B.clos B.kind B.names (thn (hi pins s σ H _ I h) fun v s1 h1=>thn h1 fun itv s2 h2=>?_)
 obtain⟨it,fp,tn,J,H2,e,I2,T,st2,f2,rd⟩:=h2
 subst e
 refine blk_runIf (RR:=fun acc C=>compPost (model X.prog X.w) X.A X.xe none (EP X pins σ Q) acc C) hc B hcn he I2 T st2 f2 rd ?_
 intro D C s' H' m' I' fC hn q
 exact⟨m',hn,fun h' sb=>⟨.ref D,H',I'.turned (t':=s'.toks) (fun b o hb e=>(sb.2 b hb).trans e) fC.1 fC.2.1 fC.2.2.2.1 fC.2.2.2.2.1 fC.2.2.2.2.2,rfl,q⟩⟩
end
theorem a_compIf {fv:List (Nat×Str)} {wi:TI} {tt:TT} {te:TE} {σ:St} {H:Hp} {Q:VK}:tCompIf fv wi tt te σ H Q=wi σ H fun J H1=>∀D,H1 D=none->CLoopIf J fv tt te Q σ H1 D:=rfl
theorem cl_listIf {K:W.Frag} {a:Addr} {xs:List V} {σ:St} {H1:Hp} {fv:List (Nat×Str)} {tt:TT} {te:TE} {Q:VK} {L:Addr} (Pv:Nat->Hp->Prop) (h0:Pv 0 (upd H1 L (.lst []))) (hl:∀i H,i<=xs.length->Pv i H->SqL K H a xs)
  (hs:∀i v H,xs[i]?=some v->Pv i H->tt (bst fv σ (some v)) H fun b Hb=>if b=true then te (bst fv σ (some v)) Hb fun y H2=>∃ys,H2 L=some (.lst ys)∧ys.length < sizeLine∧Pv (i+1) (upd H2 L (.lst (ys++[y]))) else Pv (i+1) Hb) (hd:∀H,Pv xs.length H->Q (.ref L) H):
  CLoopIf (Itl K a) fv tt te Q σ H1 L:=by
 refine⟨fun i m H=>m=xs.length - i∧i<=xs.length∧Pv i H,⟨xs.length,by simp,Nat.zero_le _,h0⟩,?_⟩
 rintro i m H ⟨rfl,hi,p⟩
 have q:=hl i H hi p
 by_cases hlt:i < xs.length
 ·refine .inr ⟨⟨xs,xs[i],q,List.getElem?_eq_getElem hlt⟩,Pv (i+1),fun H' p'=>⟨xs.length - (i+1),by omega,rfl,hlt,p'⟩,fun v H' y=>?_⟩
  obtain⟨e,y⟩:=y
  subst e
  exact hs i v _ (y xs q) p
 ·have e:i=xs.length:=by omega
  subst e
  exact .inl ⟨⟨xs,q,Nat.le_refl _⟩,hd H p⟩
theorem ints_are:∀{ns:List Int} {us:List Value},Vals (ns.map V.int) us->IntsAre us ns
 | [],us,h=>by
  cases h;exact .nil
 | n :: ns,us,h=>by
  cases h with
  | cons r rr=>
   obtain⟨t,rfl⟩:=r
   exact .cons n t (ints_are rr)
theorem at_best {zs:Array (Int×Tok)} {ns:List Int} (e:ns=zs.toList.map (·.1)) {j:Nat} (hj:j < zs.size):numAt zs j∈ns:=by
 rw [e,numAt_eq]
 exact PySem.getD_mem (by simpa using hj)
theorem of_best {zs:Array (Int×Tok)} {ns:List Int} (e:ns=zs.toList.map (·.1)) {x:Int} (hx:x∈ns):∃j,j < zs.size∧numAt zs j=x:=by
 rw [e] at hx
 obtain⟨i,hi,h⟩:=mem_getD hx
 exact⟨i,by simpa using hi,by rw [numAt_eq];exact h⟩
theorem call_minL {X:Cx} (hc:X.calm=true):CallR X (.builtin "min") (fun xs H Q=>∃p ns,xs=[.ref p]∧SqL X.K H p (ns.map V.int)∧ns≠[]∧∀M,M∈ns->(∀a,a∈ns->M<=a)->Q (.int M) H):=by
 intro pins s σ H xs us Q I r h
 obtain⟨p,ns,rfl,hq,hne,q⟩:=h
 obtain⟨u,rfl,rx⟩:=vals1 r
 cases rx
 obtain⟨its,r',pl,hz⟩:=I.list hq
 have hi:=ints_are r'
 obtain⟨zs,e⟩:=hi.allInts.items
 have hns:ns=zs.toList.map (·.1):=by rw [← hi.numsOf,← nums_intItems,← e]
 have hsz:0 < zs.size:=by
  have h3:=List.length_pos_iff.mpr hne
  rw [hns,List.length_map,Array.length_toList] at h3;exact h3
 have hl:=pl.isList
 rw [e] at hl
 refine min_intList (I.ok.hd hc) hl hsz fun v h' tk hv hk=>?_
 obtain⟨tv,rfl⟩:=intItems_at hv
 obtain⟨g1,g2⟩:=argBest_lt (numAt zs) (zs.size - 1)
 refine⟨.int _,H,I.kept hk,⟨tv,rfl⟩,q _ (at_best hns (by omega)) fun x hx=>?_⟩
 obtain⟨i,hi,rfl⟩:=of_best hns hx
 exact g2 i (by omega)
theorem call_maxL {X:Cx} (hc:X.calm=true):CallR X (.builtin "max") (fun xs H Q=>∃p ns,xs=[.ref p]∧SqL X.K H p (ns.map V.int)∧ns≠[]∧∀M,M∈ns->(∀a,a∈ns->a<=M)->Q (.int M) H):=by
 intro pins s σ H xs us Q I r h
 obtain⟨p,ns,rfl,hq,hne,q⟩:=h
 obtain⟨u,rfl,rx⟩:=vals1 r
 cases rx
 obtain⟨its,r',pl,hz⟩:=I.list hq
 have hi:=ints_are r'
 obtain⟨zs,e⟩:=hi.allInts.items
 have hns:ns=zs.toList.map (·.1):=by rw [← hi.numsOf,← nums_intItems,← e]
 have hsz:0 < zs.size:=by
  have h3:=List.length_pos_iff.mpr hne
  rw [hns,List.length_map,Array.length_toList] at h3;exact h3
 have hl:=pl.isList
 rw [e] at hl
 refine max_intList (I.ok.hd hc) hl hsz fun v h' tk hv hk=>?_
 obtain⟨tv,rfl⟩:=intItems_at hv
 obtain⟨g1,g2⟩:=argBest_gt (numAt zs) (zs.size - 1)
 refine⟨.int _,H,I.kept hk,⟨tv,rfl⟩,q _ (at_best hns (by omega)) fun x hx=>?_⟩
 obtain⟨i,hi,rfl⟩:=of_best hns hx
 exact g2 i (by omega)
def tFst (x:Str) (te:TE):TE:=fun σ H Q=>(Str.empty++x).length<=sizeLine∧te σ H fun v H1=>∃i,v=.int i∧i.natAbs.log2 < 1920∧(Str.empty++x++Str.ofString (toString i)).length<=sizeLine∧Q (.str (Str.empty++x++Str.ofString (toString i))) H1
theorem a_fst {x:Str} {te:TE} {σ:St} {H:Hp} {Q:VK}:tFst x te σ H Q=((Str.empty++x).length<=sizeLine∧te σ H fun v H1=>∃i,v=.int i∧i.natAbs.log2 < 1920∧(Str.empty++x++Str.ofString (toString i)).length<=sizeLine∧Q (.str (Str.empty++x++Str.ofString (toString i))) H1):=rfl
theorem pe_fst {X:Cx} {x:Str} {j:Nat} {e:Expr} {te:TE} {p1 p2 p3:Pos} (he:PE X e te) (hev:evalEach [.Constant (.str x) j p1,.FormattedValue e (-1) none p2] X.env=[eval (.Constant (.str x) j p1) X.env,eval (.FormattedValue e (-1) none p2) X.env]:=by rfl):
  PE X (.JoinedStr [.Constant (.str x) j p1,.FormattedValue e (-1) none p2] p3) (tFst x te):=by
 intro pins s σ H Q I h
 refine wpAny_JoinedStr ?_
 rw [hev]
 refine Calls.Constant_str ⟨x,_,rfl,?_⟩
 obtain⟨l1,hx⟩:_∧_:=h
 have h2:=he pins { s with toks:=s.toks+1 } σ H _ (I.tok _) hx
 refine⟨l1,?_⟩
 refine wpAny_FormattedValue_plain (wpAny_mono h2 (fun v s₁ z=>?_) fun _ _ y=>y)
 obtain⟨v',H1,I1,rv,i,rfl,hd,l2,q⟩:=z
 obtain⟨t,rfl⟩:=rv
 exact wpAny_formatField_int hd ⟨_,_,rfl,l2,l2,.str _,H1,(I1.tok _).tok _,⟨_,rfl⟩,q⟩
@[reducible] def blk2 (X:Cx) (x z:Str) (fv:List (Nat×Str)) (scope:Scope) (cl:List (Str×Addr)) (C:Addr) (s:Shared) (H:Hp) (fp:List Addr):Cx where
 prog:=X.prog
 w:=X.w
 K:=X.K
 mg:=X.mg
 base:=X.base
 A:=X.A
 N:=x :: z :: fv.map (·.2)
 s₀:=s
 H₀:=H
 env:=compEnvC scope cl C X.env
 outer:=X.stack
 stack:=X.stack
 ex:=fp
 fn:=fun _=>false
 calm:=X.calm
 pn:=[]
 xe:=fun _ _=>False
def bst2 (fv:List (Nat×Str)) (σ:St) (v v2:Option V):St:=v :: v2 :: fv.map fun p=>(σ[p.1]?).getD none
structure BlkOk2 (X:Cx) (x z:Str) (fv:List (Nat×Str)) (scope:Scope) (cl:List (Str×Addr)):Prop where
 clos:closureFor scope X.env=pure cl
 nocell:∀y∈scope.names,y.2≠.cell
 kind:scope.kind=.function
 names:∀y∈scope.names,y.2=.local->scope.names.lookup y.1=some .local
 here:scope.names.lookup x=some .local
 here2:scope.names.lookup z=some .local
 nd:(x :: z :: fv.map (·.2)).Nodup
 sub:∀y c,cl.lookup y=some c->X.env.cells.lookup y=some c
 has:∀y,((relabel scope X.env).names.lookup y=some .cell∨(relabel scope X.env).names.lookup y=some .free)->∃c,cl.lookup y=some c
 fvs:∀p∈fv,X.N[p.1]?=some p.2∧(X.env.scope.names.lookup p.2=some .cell∨X.env.scope.names.lookup p.2=some .free)∧
  ((relabel scope X.env).names.lookup p.2=some .cell∨(relabel scope X.env).names.lookup p.2=some .free)∧∃c,cl.lookup p.2=some c
section
variable {X:Cx} {elt iter:Expr} {x z:Str} {px pz:Pos} {tk:Nat} {tpos:Pos} {fv:List (Nat×Str)} {scope:Scope} {cl:List (Str×Addr)} {pos:Pos} {te:TE} {wi:TI}
theorem blk_ok2 {pins:List (Addr×Obj)} {σ:St} {H:Hp} {s:Shared} {fp:List Addr} {C:Addr} (B:BlkOk2 X x z fv scope cl) (I:Inv X pins σ H s) (hf:∀b∈fp,FpOk X pins H b) (hC:s.heap.objs.size<=C) (hfC:∀b∈fp,b≠C):
  (blk2 X x z fv scope cl C s H fp).Ok where
 mod:=I.ok.mod
 kind:=B.kind
 glob:=I.ok.glob
 blt:=I.ok.blt
 above:=hC
 inj:=fun y y' c h1 h2=>I.ok.inj y y' c (B.sub y c h1) (B.sub y' c h2)
 has:=fun y hy=>B.has y hy
 cab:=fun y c h=>nomatch h
 hd:=I.ok.hd
 frames:=I.ok.frames
 stk:=.inl rfl
 exf:=fun b hb=>⟨hfC b hb,fun y c e=>(hf b hb).2.2.2.2.1 y c (B.sub y c e)⟩
 bs:=I.bs
 bsz:=Nat.le_trans I.ok.bsz I.sz
 noex:=fun b o e hb=>by
  obtain⟨_,_,_,f3,_⟩:=hf b hb
  rcases f3 with z' | z'
  ·exact I.ok.noex b o e z'
  ·exact absurd (Nat.lt_of_lt_of_le (Heap.lt_size e) (Nat.le_trans I.ok.bsz z')) (Nat.lt_irrefl _)
 exfs:=fun b hb hs=>by
  obtain⟨_,f1,f2,_⟩:=hf b hb
  rcases List.mem_cons.mp (I.stkSub b hs) with z | z
  ·exact f1 z
  ·exact f2 z
 funs:=I.stack
 frf:=I.stkFree
theorem bst_get2 {fv:List (Nat×Str)} {σ:St} {o o2:Option V} {j:Nat} {y:Str} {v:V} (h1:(x :: z :: fv.map (·.2))[j+2]?=some y) (h2:(bst2 fv σ o o2)[j+2]?=some (some v)):∃p∈fv,p.2=y∧σ[p.1]?=some (some v):=by
 have e1:(fv.map (·.2))[j]?=some y:=by simpa using h1
 have e2:(fv.map fun p=>(σ[p.1]?).getD none)[j]?=some (some v):=by simpa [bst2] using h2
 rw [List.getElem?_map] at e1 e2
 cases q:fv[j]? with
 | none=>rw [q] at e1;cases e1
 | some p=>
  rw [q] at e1 e2
  refine⟨p,List.mem_of_getElem? q,Option.some.inj e1,?_⟩
  have e3:(σ[p.1]?).getD none=some v:=Option.some.inj e2
  cases r:σ[p.1]? with
  | none=>rw [r] at e3;cases e3
  | some w=>rw [r] at e3;exact congrArg some e3
theorem blk_start2 {pins:List (Addr×Obj)} {σ:St} {H:Hp} {s s4:Shared} {fp:List Addr} {C:Addr} {m:Str->Option Value} (B:BlkOk2 X x z fv scope cl) (I:Inv X pins σ H s) (hf:∀b∈fp,FpOk X pins H b) (hC:C=s.heap.objs.size)
  (hfC:∀b∈fp,b≠C) (os:s4.os=s.os) (gens:s4.gens=s.gens) (keep:∀b o,s.heap.get? b=some o->s4.heap.get? b=some o) (ns:s4.heap.Ns C m):
  Inv (blk2 X x z fv scope cl C s H fp) [] (bst2 fv σ none none) H s4:=by
 subst hC
 refine⟨blk_ok2 B I hf (Nat.le_refl _) hfC,os,by rw [gens];exact I.bare,Un.kept keep,⟨m,ns,fun i y v h1 h2 h3=>?_⟩,fun y c e=>?_,I.hok.fresh (Nat.le_refl _),fun y c e=>I.freeC y c (B.sub y c e),fun p hp=>absurd (show p∈([]:List (Addr×Obj)) from hp) (by simp),I.hok.kept keep,by simp [bst2]⟩
 ·cases i with
  | zero=>simp [bst2] at h2
  | succ j=>
   cases j with
   | zero=>simp [bst2] at h2
   | succ j=>
   obtain⟨p,hp,rfl,hv⟩:=bst_get2 h1 h2
   obtain⟨hN,hk,hk2,c,hc⟩:=B.fvs p hp
   obtain⟨m0,_,hl⟩:=I.loc
   have vis:Vis X.env.scope p.2:=hk.elim (fun z=>.inr (.inl z)) fun z=>.inr (.inr z)
   obtain⟨u,r,l⟩:=hl p.1 p.2 v hN hv vis
   refine⟨u,r,.inr ⟨hk2,c,hc,?_⟩⟩
   rcases l with ⟨z,_⟩ | ⟨_,c',hc',o,ho,hd⟩
   ·have z':X.env.scope.names.lookup p.2=some .local:=z
    rcases hk with k | k <;> (rw [k] at z';cases z')
   ·have:=B.sub p.2 c hc
    rw [hc'] at this;cases this
    exact⟨o,keep _ o ho,hd⟩
 ·obtain⟨v,o,ho,hd⟩:=I.cell y c (B.sub y c e)
  exact⟨v,o,keep c o ho,hd⟩
theorem blk_store2 {s:Shared} {H0:Hp} {fp:List Addr} {C:Addr} (hc:X.calm=true) (B:BlkOk2 X x z fv scope cl):
  PG (blk2 X x z fv scope cl C s H0 fp) (.Tuple [.Name x px,.Name z pz] tk tpos) (gTup X.K 2 (gCons (gName 0) (gCons (gName 1) gNil))):=by
 have h1:(relabel scope X.env).names.lookup x=some .local:=lookup_relabel_local B.here
 have h2:(relabel scope X.env).names.lookup z=some .local:=lookup_relabel_local B.here2
 exact pg_tup (X:=blk2 X x z fv scope cl C s H0 fp) hc (pgs_cons (pg_name (i:=0) B.nd rfl (.inl h1) (.inr h1)) (pgs_cons (pg_name (i:=1) B.nd rfl (.inl h2) (.inr h2)) pgs_nil))
theorem blk_run2 {pins:List (Addr×Obj)} {σ:St} {H:Hp} {s2:Shared} {it:Addr} {fp:List Addr} {tn:Nat->Heap->Prop} {J:It} {Q:VK} {E:Value->Shared->Prop} {RR:Value->Addr->Result->Shared->Prop}
  (hc:X.calm=true) (B:BlkOk2 X x z fv scope cl) (he:∀C s H fp,PE (blk2 X x z fv scope cl C s H fp) elt te) (I:Inv X pins σ H s2) (T:Turn X.prog X.w X.K (.Tuple [.Name x px,.Name z pz] tk tpos) J fp it tn) (st:tn 0 s2.heap) (hf:∀b∈fp,FpOk X pins H b)
  (rd:∀D,H D=none->∃W:Nat->Nat->Hp->Prop,(∃m,W 0 m (upd H D (.lst [])))∧∀i m H,W i m H->
   (J.stop i H∧Q (.ref D) H)∨(J.go i H∧∃N:Hp->Prop,(∀H',N H'->∃m',m' < m∧W (i+1) m' H')∧∀v H',J.yld i H v H'->∃q x1 x2,v=.ref q∧SqT X.K H' q [x1,x2]∧te (bst2 fv σ (some x1) (some x2)) H' fun y H2=>∃ys,H2 D=some (.lst ys)∧ys.length < sizeLine∧N (upd H2 D (.lst (ys++[y])))))
  (hRR:∀D C s' H' m',Inv X pins σ H' s'->FpOk X pins H' C->s'.heap.Ns C m'->Q (.ref D) H'->RR (.ref D) C (.ok .next) s'):
  wpAny (model X.prog X.w) X.A (newList []) (fun acc s₃=>wpAny (model X.prog X.w) X.A (newFunctionEnv scope X.env.globals cl [] X.env.qual none .none (some X.env)) (fun cenv s₄=>
   codeAny (model X.prog X.w) X.A (.compStart (.ListComp elt [⟨(.Tuple [.Name x px,.Name z pz] tk tpos),iter,[],0⟩] scope pos) 0 (.ref it) acc { cenv with scope:=relabel scope X.env }) (RR acc cenv.locals) s₄) E s₃) E s2:=by
 refine wpAny_newObj_type ?_ (by show 0<=sizeLine;exact Nat.zero_le _)
 have hD:H s2.heap.objs.size=none:=I.hok.fresh (Nat.le_refl _)
 have I3:=I.lnew (ys:=[]) (its:=[]) (t':=s2.toks) .nil (Nat.zero_le _)
 generalize hs3:({ s2 with heap:=s2.heap.push { cls:=.type "list",data:=.seq ([]:List Value).toArray },toks:=s2.toks }:Shared)=s3 at I3
 have sz3:s3.heap.objs.size=s2.heap.objs.size+1:=by rw [← hs3];exact Heap.size_push ..
 have up3:∀b o,s2.heap.get? b=some o->s3.heap.get? b=some o:=fun b o e=>by rw [← hs3];exact Heap.get?_push_of_some _ e
 have hf3:∀b∈fp,FpOk X pins (upd H s2.heap.objs.size (.lst [])) b:=fun b hb=>by
  obtain⟨f0,r⟩:=hf b hb
  refine⟨?_,r⟩
  obtain⟨o,e,_⟩:=T.obj 0 _ st b hb
  rw [upd_ne (Nat.ne_of_lt (Heap.lt_size e))];exact f0
 have ltf:∀b∈fp,b < s2.heap.objs.size:=fun b hb=>by
  obtain⟨o,e,_⟩:=T.obj 0 _ st b hb
  exact Heap.lt_size e
 have st3:tn 0 s3.heap:=T.keep 0 _ _ st fun b _ o e=>up3 b o e
 obtain⟨W,⟨m0,w0⟩,turn⟩:=rd _ hD
 refine wpAny_newFunctionEnv B.nocell (by intro y hy;simp at hy) (fun h₁ hns₁ hsb₁=>?_) B.kind
 have hfC:∀b∈fp,b≠s3.heap.objs.size:=fun b hb=>Nat.ne_of_lt (by rw [sz3];exact Nat.lt_succ_of_lt (ltf b hb))
 have up4:∀b o,s3.heap.get? b=some o->h₁.get? b=some o:=fun b o e=>hsb₁.extBut b o (Nat.ne_of_lt (Heap.lt_size e)) (Heap.get?_push_of_some _ e)
 generalize hs4:({ s3 with heap:=h₁,toks:=s3.toks+([]:List (Str×Value)).length }:Shared)=s4
 have h4:s4.heap=h₁:=by rw [← hs4]
 have I4:Inv (blk2 X x z fv scope cl s3.heap.objs.size s3 (upd H s2.heap.objs.size (.lst [])) fp) [] (bst2 fv σ none none) (upd H s2.heap.objs.size (.lst [])) s4:=
  blk_start2 B I3 hf3 rfl hfC (by rw [← hs4]) (by rw [← hs4]) (fun b o e=>by rw [h4];exact up4 b o e) (by rw [h4];exact hns₁)
 have st4:tn 0 s4.heap:=by rw [h4];exact T.keep 0 _ _ st3 fun b _ o e=>up4 b o e
 have stat:∀{H':Hp},(∀b∈fp,H' b=none)->∀b∈fp,FpOk (blk2 X x z fv scope cl s3.heap.objs.size s3 (upd H s2.heap.objs.size (.lst [])) fp) [] H' b:=fun {H'} hn b hb=>by
  obtain⟨_,f1,f2,f3,f4,f5⟩:=hf b hb
  refine⟨hn b hb,hfC b hb,fun z'=>?_,.inl hb,fun y c e=>f4 y c (B.sub y c e),fun p hp=>absurd (show p∈([]:List (Addr×Obj)) from hp) (by simp)⟩
  rcases List.mem_cons.mp (I.stkSub b z') with q | q
  ·exact f1 q
  ·exact f2 q
 have loop:codeAny (model X.prog X.w) X.A (.compLoop (.ListComp elt [⟨(.Tuple [.Name x px,.Name z pz] tk tpos),iter,[],0⟩] scope pos) 0 (.ref it) (.ref s2.heap.objs.size) (compEnvC scope cl s3.heap.objs.size X.env)) (RR (.ref s2.heap.objs.size) s3.heap.objs.size) s4:=by
  refine compLoop_one (fun n s'=>∃i H' o o2,Inv (blk2 X x z fv scope cl s3.heap.objs.size s3 (upd H s2.heap.objs.size (.lst [])) fp) [] (bst2 fv σ o o2) H' s'∧tn i s'.heap∧(∀b∈fp,H' b=none)∧W i n H') ?_ m0
   ⟨0,_,none,none,I4,st4,fun b hb=>(hf3 b hb).1,w0⟩
  rintro n s5 E' ⟨i,H5,o5,o6,I5,st5,fr5,w5⟩
  rcases turn i n H5 w5 with ⟨stop,q⟩ | ⟨go,N,hN,step⟩
  ·refine thn (T.done (blk2 X x z fv scope cl s3.heap.objs.size s3 (upd H s2.heap.objs.size (.lst [])) fp) rfl rfl rfl hc i [] s5 _ H5 _ I5 (stat fr5) st5 stop) fun r s6 ⟨hr,I6⟩=>?_
   subst hr
   obtain⟨m6,hn6,_⟩:=I6.loc
   have J6:Inv X pins σ H5 s6:=blk_back I I6.hok I6.bare hD up3 I6.base (I6.os.trans (by rw [← hs3])) hf
   refine hRR _ _ s6 H5 m6 J6 ?_ hn6 q
   exact I3.fpOk (Nat.le_refl _) I6.free
  ·refine thn (T.item (blk2 X x z fv scope cl s3.heap.objs.size s3 (upd H s2.heap.objs.size (.lst [])) fp) rfl rfl rfl hc i [] s5 _ H5 _ I5 (stat fr5) st5 go) fun r s6 ⟨u,hr,h6⟩=>?_
   subst hr
   refine thn h6 fun _ s7 ⟨v,H7,I7,r7,y7,st7,fr7⟩=>?_
   have I7':=I7.pinned (stat fr7) (T.obj _ _ st7)
   obtain⟨q7,x1,x2,ev,sq7,rd7⟩:=step v H7 y7
   refine wpAny_mono (blk_store2 (px:=px) (pz:=pz) (tk:=tk) (tpos:=tpos) hc B _ s7 _ H7 v u (fun σ' H'=>σ'=bst2 fv σ (some x1) (some x2)∧H'=H7) I7' r7 ⟨q7,[x1,x2],ev,sq7,rfl,x1,[x2],rfl,x2,[],rfl,rfl,rfl,rfl⟩) (fun _ s8 ⟨σ8,H8,I8,e8a,e8b⟩=>?_) fun _ _ z=>False.elim z
   subst e8a e8b
   have e8:=he _ _ _ _ _ s8 _ _ _ I8 rd7
   refine wpAny_mono e8 (fun y s9 ⟨yv,H9,I9,r9,ys,hD9,hz,n9⟩=>?_) fun _ _ z=>False.elim z
   have a9:=blk_tail (E':=E') T (fun _ _ z=>z) st7 I9 r9 hD9 hz n9 hN
   refine wpAny_mono a9 (fun _ s10 zz=>?_) fun _ _ z=>z
   obtain⟨m',hm,H10,I10,t10,f10,w9⟩:=zz
   exact⟨m',hm,i+1,H10,_,_,I10,t10,f10,w9⟩
 exact codeAny_compStart_list loop (T.self _ 0 _ _ _ st4 loop)
def CLoop2 (K:W.Frag) (J:It) (fv:List (Nat×Str)) (te:TE) (Q:VK) (σ:St) (H1:Hp) (D:Addr):Prop:=∃W:Nat->Nat->Hp->Prop,(∃m,W 0 m (upd H1 D (.lst [])))∧∀i m H,W i m H->
 (J.stop i H∧Q (.ref D) H)∨(J.go i H∧∃N:Hp->Prop,(∀H',N H'->∃m',m' < m∧W (i+1) m' H')∧∀v H',J.yld i H v H'->∃q x1 x2,v=.ref q∧SqT K H' q [x1,x2]∧te (bst2 fv σ (some x1) (some x2)) H' fun y H2=>∃ys,H2 D=some (.lst ys)∧ys.length < sizeLine∧N (upd H2 D (.lst (ys++[y]))))
def tComp2 (K:W.Frag) (fv:List (Nat×Str)) (wi:TI) (te:TE):TE:=fun σ H Q=>wi σ H fun J H1=>∀D,H1 D=none->CLoop2 K J fv te Q σ H1 D
theorem a_tComp2 {K:W.Frag} {σ:St} {H:Hp} {Q:VK}:tComp2 K fv wi te σ H Q=wi σ H fun J H1=>∀D,H1 D=none->CLoop2 K J fv te Q σ H1 D:=rfl
theorem pe_lcomp2 (hc:X.calm=true) (B:BlkOk2 X x z fv scope cl) (hi:PI X (.Tuple [.Name x px,.Name z pz] tk tpos) iter wi) (he:∀C s H fp,PE (blk2 X x z fv scope cl C s H fp) elt te)
  (hs:∀v,foldedSetIterable iter X.env v=pure v:=by intro _;rfl):PE X (.ListComp elt [⟨.Tuple [.Name x px,.Name z pz] tk tpos,iter,[],0⟩] scope pos) (tComp2 X.K fv wi te):=by
 intro pins s σ H Q I h
 rw [eval_ListComp]
 refine wpAny_comprehension_free (use:=none) rfl hs B.clos B.kind B.names (thn (hi pins s σ H _ I h) fun v s1 h1=>thn h1 fun itv s2 h2=>?_)
 obtain⟨it,fp,tn,J,H2,e,I2,T,st2,f2,rd⟩:=h2
 subst e
 refine blk_run2 (RR:=fun acc C=>compPost (model X.prog X.w) X.A X.xe none (EP X pins σ Q) acc C) hc B he I2 T st2 f2 rd ?_
 intro D C s' H' m' I' fC hn q
 exact⟨m',hn,fun h' sb=>⟨.ref D,H',I'.turned (t':=s'.toks) (fun b o hb e=>(sb.2 b hb).trans e) fC.1 fC.2.1 fC.2.2.2.1 fC.2.2.2.2.1 fC.2.2.2.2.2,rfl,q⟩⟩
def FvOk2 (X:Cx) (scope:Scope) (cl:List (Str×Addr)) (fv:List (Nat×Str)):Prop:=∀p∈fv,X.N[p.1]?=some p.2∧(X.env.scope.names.lookup p.2=some .cell∨X.env.scope.names.lookup p.2=some .free)∧
  ((relabel scope X.env).names.lookup p.2=some .cell∨(relabel scope X.env).names.lookup p.2=some .free)∧∃c,cl.lookup p.2=some c
theorem fv_nil2 {X:Cx} {scope:Scope} {cl:List (Str×Addr)}:FvOk2 X scope cl []:=fun _ h=>nomatch h
theorem fv_cons2 {X:Cx} {scope:Scope} {cl:List (Str×Addr)} {fv:List (Nat×Str)} (i:Nat) (y:Str) (h2:X.N[i]?=some y) (h3:X.env.scope.names.lookup y=some .cell∨X.env.scope.names.lookup y=some .free)
  (h4:(relabel scope X.env).names.lookup y=some .cell∨(relabel scope X.env).names.lookup y=some .free) (h5:∃c,cl.lookup y=some c) (r:FvOk2 X scope cl fv):FvOk2 X scope cl ((i,y) :: fv):=fun p hp=>by
 rcases List.mem_cons.mp hp with rfl | hp
 ·exact⟨h2,h3,h4,h5⟩
 ·exact r p hp
theorem blkok2 {X:Cx} {x z:Str} {fv:List (Nat×Str)} {scope:Scope} {cl:List (Str×Addr)} (clos:closureFor scope X.env=pure cl) (sub:∀y c,cl.lookup y=some c->X.env.cells.lookup y=some c) (fvs:FvOk2 X scope cl fv)
  (nd:(x :: z :: fv.map (·.2)).Nodup:=by decide) (kind:scope.kind=.function:=by rfl) (here:scope.names.lookup x=some .local:=by rfl) (here2:scope.names.lookup z=some .local:=by rfl) (nocell:∀y∈scope.names,y.2≠.cell:=by decide +kernel)
  (names:∀y∈scope.names,y.2=.local->scope.names.lookup y.1=some .local:=by decide +kernel)
  (has:((relabel scope X.env).names.all fun p=>(p.2 != .cell && p.2 != .free) || (cl.lookup p.1).isSome)=true:=by rfl):BlkOk2 X x z fv scope cl:=
 ⟨clos,nocell,kind,names,here,here2,nd,sub,has_of has,fvs⟩
end
def Itz (K:W.Frag) (a b:Addr):It:=
 ⟨fun i H=>∃xs ys x y,SqL K H a xs∧SqL K H b ys∧xs[i]?=some x∧ys[i]?=some y,fun i H v H'=>∃p x y,H p=none∧v=.ref p∧H'=upd H p (.tup [x,y])∧(∀xs,SqL K H a xs->xs[i]?=some x)∧∀ys,SqL K H b ys->ys[i]?=some y,
  fun i H=>∃xs ys,SqL K H a xs∧SqL K H b ys∧(xs.length<=i∨ys.length<=i)⟩
theorem turn_zip {P:Program} {w:World} {K:W.Frag} {elts:List Expr} {tk:Nat} {tpos:Pos} (a b z TI TO i1 i2:Addr) (D:ZipApart z TI TO i1 i2 a b):
  Turn P w K (.Tuple elts tk tpos) (Itz K a b) [z,TI,TO,i1,i2] z (fun i h=>IsZip h z TI TO .none∧IsPair h TI (.ref i1) (.ref i2)∧(∃u v,IsPair h TO u v)∧h.IsListIter i1 a i∧h.IsListIter i2 b i) where
 mem:=by simp
 obj:=fun i h st c hb=>by
  obtain⟨hz,hTI,⟨u,v,hTO⟩,⟨o1,e1,c1,d1⟩,⟨o2,e2,c2,d2⟩⟩:=st
  simp only [List.mem_cons,List.not_mem_nil,or_false] at hb
  rcases hb with rfl | rfl | rfl | rfl | rfl
  ·exact⟨_,hz,fun v z=>by
    have z':Data.fields _=Data.cell v:=z
    cases z'⟩
  ·exact⟨_,hTI,fun v z=>by
    have z':Data.seq _=Data.cell v:=z
    cases z'⟩
  ·exact⟨_,hTO,fun v z=>by
    have z':Data.seq _=Data.cell v:=z
    cases z'⟩
  ·exact⟨o1,e1,fun v z=>by rw [d1] at z;cases z⟩
  ·exact⟨o2,e2,fun v z=>by rw [d2] at z;cases z⟩
 keep:=fun i h h' st k=>by
  obtain⟨hz,hTI,⟨u,v,hTO⟩,h1,h2⟩:=st
  exact⟨k z (by simp) _ hz,k TI (by simp) _ hTI,⟨u,v,k TO (by simp) _ hTO⟩,h1.at fun o q=>k i1 (by simp) o q,h2.at fun o q=>k i2 (by simp) o q⟩
 item:=by
  intro X hP hw hK hc i pins s σ H E I hf st hg
  subst hP hw hK
  obtain⟨xs,ys,x,y,hq1,hq2,hx,hy⟩:=hg
  obtain⟨its1,rv1,pl1,hz1⟩:=I.list hq1
  obtain⟨its2,rv2,pl2,hz2⟩:=I.list hq2
  obtain⟨u1,hu1,ru1⟩:=rv1.get hx
  obtain⟨u2,hu2,ru2⟩:=rv2.get hy
  obtain⟨hz,hTI,⟨_,_,hTO⟩,hit1,hit2⟩:=st
  refine wpAny_pyNext_zip_item D hz hTI hTO hit1 hit2 pl1.isList pl2.isList (x:=u1) (y:=u2) (by simpa using hu1) (by simpa using hu2) fun h1 ho hTO1 hi1 hi2 hT hsz hk=>?_
  refine⟨_,rfl,wpAny_letOwnedTupleGo_zip ho fun h2 he2 hs2=>?_⟩
  have hp:H s.heap.objs.size=none:=I.hok.fresh (Nat.le_refl _)
  have hpz:s.heap.objs.size≠z:=Nat.ne_of_gt (Heap.lt_size hz)
  have k2:∀c o,c∉[z,TI,TO,i1,i2]->s.heap.get? c=some o->h2.get? c=some o:=fun c o hb q=>
   (hs2.2 c fun e=>hb (by simp [e])).trans (hk c o (fun e=>hb (by simp [e])) (fun e=>hb (by simp [e])) (fun e=>hb (by simp [e])) (fun e=>hb (by simp [e])) q)
  have hT2:h2.get? s.heap.objs.size=some { cls:=.type "tuple",data:=.seq #[u1,u2] }:=(hs2.2 _ hpz).trans hT
  have nch:∀c u,H c=some u->c∉[z,TI,TO,i1,i2]:=fun c u q hb=>by
   rw [(hf c hb).1] at q;cases q
  have up:∀c,c < s.heap.objs.size->c≠s.heap.objs.size:=fun c hb=>Nat.ne_of_lt hb
  have I2:Inv X pins σ (upd H s.heap.objs.size (.tup [x,y])) { s with heap:=h2 }:=by
   refine I.step (g':=s.gens) (d':=s.drawn) (t':=s.toks) (ch:=[z,TI,TO,i1,i2]) (fun c hb=>?_) (fun c o _ _ hc q _=>k2 c o hc q) (fun c o _ _ hc q _=>⟨o.slots,k2 c o hc q⟩)
    (fun c o _ q n=>by rw [upd_ne (up c (Heap.lt_size q))];exact n) (fun c o hc q=>⟨o,k2 c o hc q⟩) (fun c ys q=>by rw [upd_ne (ne_of_none q hp)];exact q) (fun c o v q=>by rw [upd_ne (ne_of_none q hp)];exact q)
    (fun c ps q=>⟨#[],by rw [upd_ne (ne_of_none q hp),q];simp⟩) (fun m hm=>?_) (fun c v q=>?_) I.bare
   ·obtain⟨f0,f1,f2,f3,f4,f5⟩:=hf c hb
    exact⟨f3,f1,f4,f5⟩
   ·obtain⟨o,es,ep,q,r⟩:=hm
    refine⟨o,es,ep,k2 _ o (fun e=>?_) q,r⟩
    exact (hf _ e).2.1 rfl
   ·by_cases hb:c=s.heap.objs.size
    ·subst hb
     rw [upd_same] at q;cases q
     exact⟨by show 2<=sizeLine;decide,[u1,u2],.cons ru1 (.cons ru2 .nil),⟨_,hT2,rfl,_,rfl⟩⟩
    ·rw [upd_ne hb] at q
     refine (I.hok c v q).stay (fun c' o hc r=>k2 c' o ?_ r) (fun c' r=>by rw [upd_ne (ne_of_none r hp)];exact r) fun c' ys r=>by rw [upd_ne (ne_of_none r hp)];exact r
     rcases hc with e | e
     ·rw [e];exact nch c v q
     ·exact nch c' _ e
  refine⟨.ref s.heap.objs.size,_,I2,rfl,⟨_,x,y,hp,rfl,rfl,fun zs hz'=>by rw [I.list_inj hz' hq1];exact hx,fun zs hz'=>by rw [I.list_inj hz' hq2];exact hy⟩,
   ⟨he2,(hs2.2 TI D.TIz).trans (hk TI _ D.TIz D.TITO D.TIi1 D.TIi2 hTI),⟨_,_,(hs2.2 TO D.TOz).trans hTO1⟩,hi1.at fun o q=>(hs2.2 i1 D.i1z).trans q,hi2.at fun o q=>(hs2.2 i2 D.i2z).trans q⟩,fun c hb=>?_⟩
  have lb:c < s.heap.objs.size:=by
   simp only [List.mem_cons,List.not_mem_nil,or_false] at hb
   rcases hb with rfl | rfl | rfl | rfl | rfl
   ·exact Heap.lt_size hz
   ·exact Heap.lt_size hTI
   ·exact Heap.lt_size hTO
   ·obtain⟨_,q,_⟩:=hit1;exact Heap.lt_size q
   ·obtain⟨_,q,_⟩:=hit2;exact Heap.lt_size q
  rw [upd_ne (up c lb)]
  exact (hf c hb).1
 done:=by
  intro X hP hw hK hc i pins s σ H E I hf st hg
  subst hP hw hK
  obtain⟨xs,ys,hq1,hq2,hx⟩:=hg
  obtain⟨its1,rv1,pl1,hz1⟩:=I.list hq1
  obtain⟨its2,rv2,pl2,hz2⟩:=I.list hq2
  obtain⟨hz,hTI,⟨_,_,hTO⟩,hit1,hit2⟩:=st
  have hl1:=rv1.length
  have hl2:=rv2.length
  refine wpAny_pyNext_zip_end (I.ok.hd hc) D hz hTI hTO hit1 hit2 pl1.isList pl2.isList (by rcases hx with e | e;exact .inl (by simp;omega);exact .inr (by simp;omega)) fun h' eb=>⟨rfl,?_⟩
  have k2:∀c o,c∉[z,TI,TO,i1,i2]->s.heap.get? c=some o->h'.get? c=some o:=fun c o hb q=>eb c o (fun e=>hb (by simp [e])) (fun e=>hb (by simp [e])) (fun e=>hb (by simp [e])) (fun e=>hb (by simp [e])) q
  refine I.step (g':=s.gens) (d':=s.drawn) (t':=s.toks) (ch:=[z,TI,TO,i1,i2]) (fun c hb=>?_) (fun c o _ _ hc q _=>k2 c o hc q) (fun c o _ _ hc q _=>⟨o.slots,k2 c o hc q⟩)
   (fun c o _ q n=>n) (fun c o hc q=>⟨o,k2 c o hc q⟩) (fun c ys q=>q) (fun c o v q=>q) (fun c ps q=>⟨#[],by rw [q];simp⟩) (fun m hm=>?_) (fun c v q=>?_) I.bare
  ·obtain⟨f0,f1,f2,f3,f4,f5⟩:=hf c hb
   exact⟨f3,f1,f4,f5⟩
  ·obtain⟨o,es,ep,q,r⟩:=hm
   exact⟨o,es,ep,k2 _ o (fun e=>(hf _ e).2.1 rfl) q,r⟩
  ·refine (I.hok c v q).stay (fun c' o hc r=>k2 c' o ?_ r) (fun c' r=>r) fun c' ys r=>r
   have nch:∀c u,H c=some u->c∉[z,TI,TO,i1,i2]:=fun c u q hb=>by
    rw [(hf c hb).1] at q;cases q
   rcases hc with e | e
   ·rw [e];exact nch c v q
   ·exact nch c' _ e
 self:=fun _ _ _ _ _ st h=>wpAny_pyIter_zip st.1 h
section
variable {X:Cx}
def iZip (K:W.Frag) (ta:TA):TI:=fun σ H R=>ta σ H fun vs H1=>∃a b xs ys,vs=[.ref a,.ref b]∧SqL K H1 a xs∧SqL K H1 b ys∧R (Itz K a b) H1
theorem pi_zip {elts:List Expr} {tk:Nat} {tpos:Pos} {a b:Expr} {ta:TA} {p pos:Pos} (hg:Gl X "zip") (hm:X.mg "zip" = none) (ha:PA X [a,b] ta) (hs:starEach [a,b] X.env=[(false,eval a X.env),(false,eval b X.env)]:=by rfl)
  (hs2:starEach [b] X.env=[(false,eval b X.env)]:=by rfl):
  PI X (.Tuple elts tk tpos) (.Call (.Name "zip" p) [a,b] [] pos) (iZip X.K ta):=by
 intro pins s σ H R I h
 refine Call_ (ld_blt I hg hm boot_zip (PyProof.Rows.callWith_type1 (thn (ha pos pins s σ H _ I h) fun us s1 ⟨vs,H1,I1,r1,q1⟩=>?_) (by rw [hs,hs2]) (by rw [hs2];rfl)))
 obtain⟨a,b,xs,ys,e,hq1,hq2,q⟩:=q1
 subst e
 cases r1 with
 | cons r rr=>
  cases rr with
  | cons r' rr=>
  cases rr
  cases r
  cases r'
  obtain⟨its1,rv1,pl1,hz1⟩:=I1.list hq1
  obtain⟨its2,rv2,pl2,hz2⟩:=I1.list hq2
  have a1:a < s1.heap.objs.size:=by obtain⟨_,e,_⟩:=pl1.isList;exact Heap.lt_size e
  have a2:b < s1.heap.objs.size:=by obtain⟨_,e,_⟩:=pl2.isList;exact Heap.lt_size e
  refine call_zip_2 pl1.isList pl2.isList fun h1 hz hTI hTO hi1 hi2 hsz hk=>?_
  have I2:Inv X pins σ H1 { s1 with heap:=h1 }:=I1.kept (t':=s1.toks) hk
  refine wpAny_pyIter_zip hz ?_
  refine⟨s1.heap.objs.size+4,[s1.heap.objs.size+4,s1.heap.objs.size+2,s1.heap.objs.size+3,s1.heap.objs.size,s1.heap.objs.size+1],_,_,H1,rfl,I2,turn_zip a b _ _ _ _ _ (zipApart_new a1 a2),⟨hz,hTI,⟨_,_,hTO⟩,hi1,hi2⟩,fun c hb=>?_,q⟩
  have hb':s1.heap.objs.size<=c:=by
   simp only [List.mem_cons,List.not_mem_nil,or_false] at hb
   rcases hb with rfl | rfl | rfl | rfl | rfl <;> omega
  exact I1.fpOk hb' (I1.hok.fresh hb')
end
theorem a_izip {K:W.Frag} {ta:TA} {σ:St} {H:Hp} {R:It->Hp->Prop}:iZip K ta σ H R=ta σ H fun vs H1=>∃a b xs ys,vs=[.ref a,.ref b]∧SqL K H1 a xs∧SqL K H1 b ys∧R (Itz K a b) H1:=rfl
theorem cl_zip {K:W.Frag} {a b:Addr} {xs ys:List V} {fv:List (Nat×Str)} {te:TE} {Q:VK} {σ:St} {H1:Hp} {D:Addr} (Pv:Nat->Hp->Prop) (h0:Pv 0 (upd H1 D (.lst []))) (hl:∀i H,i<=xs.length->i<=ys.length->Pv i H->SqL K H a xs∧SqL K H b ys)
  (hs:∀i v1 v2 p H,xs[i]?=some v1->ys[i]?=some v2->Pv i H->H p=none->te (bst2 fv σ (some v1) (some v2)) (upd H p (.tup [v1,v2])) fun y H2=>∃zs,H2 D=some (.lst zs)∧zs.length < sizeLine∧Pv (i+1) (upd H2 D (.lst (zs++[y]))))
  (hd:∀H,Pv (min xs.length ys.length) H->Q (.ref D) H):CLoop2 K (Itz K a b) fv te Q σ H1 D:=by
 refine⟨fun i m H=>m=min xs.length ys.length - i∧i<=min xs.length ys.length∧Pv i H,⟨_,rfl,Nat.zero_le _,h0⟩,?_⟩
 rintro i m H ⟨rfl,hi,p⟩
 obtain⟨q1,q2⟩:=hl i H (by omega) (by omega) p
 by_cases hlt:i < min xs.length ys.length
 ·have l1:i < xs.length:=by omega
  have l2:i < ys.length:=by omega
  refine .inr ⟨⟨xs,ys,xs[i],ys[i],q1,q2,List.getElem?_eq_getElem l1,List.getElem?_eq_getElem l2⟩,Pv (i+1),fun H' p'=>⟨min xs.length ys.length - (i+1),by omega,rfl,hlt,p'⟩,fun v H' y=>?_⟩
  obtain⟨pa,x1,x2,hn,e1,e2,y1,y2⟩:=y
  subst e1 e2
  exact⟨pa,x1,x2,rfl,.inl (.inl upd_same),hs i x1 x2 pa H (y1 xs q1) (y2 ys q2) p hn⟩
 ·have e:i=min xs.length ys.length:=by omega
  refine .inl ⟨⟨xs,ys,q1,q2,by omega⟩,?_⟩
  rw [e] at p
  exact hd H p
section
variable {X:Cx}
def ipC (C:Int->Int->Prop) (f:Int->Int->Int):TIp:=fun x y H Q=>∃i j,x=.int i∧y=.int j∧C i j∧Q (.int (f i j)) H
theorem a_ipC {C:Int->Int->Prop} {f:Int->Int->Int} {x y:V} {H:Hp} {Q:VK}:ipC C f x y H Q=∃i j,x=.int i∧y=.int j∧C i j∧Q (.int (f i j)) H:=rfl
theorem ip_mulZ:PIp X .Mult (ipC IntMulOk fun i j=>i * j):=by
 intro pins s σ H x y v u Q I r1 r2 h
 obtain⟨i,j,e1,e2,hm,q⟩:=h
 subst e1;subst e2
 obtain⟨t,rfl⟩:=r1
 obtain⟨t',rfl⟩:=r2
 exact imul_int ⟨.int _,H,I.tok _,⟨_,rfl⟩,q⟩ hm
theorem call_sumL (hc:X.calm=true):CallR X (.builtin "sum") (fun xs H Q=>∃(p:Addr) (ns:List Int),xs=[.ref p]∧SqL X.K H p (ns.map V.int)∧Q (.int ns.sum) H):=by
 intro pins s σ H xs us Q I r h
 obtain⟨p,ns,rfl,hq,q⟩:=h
 obtain⟨u,rfl,rx⟩:=vals1 r
 cases rx
 obtain⟨its,r',pl,hz⟩:=I.list hq
 have hi:=ints_are r'
 obtain⟨zs,e⟩:=hi.allInts.items
 have hns:ns=zs.toList.map (·.1):=by rw [← hi.numsOf,← nums_intItems,← e]
 have hl:=pl.isList
 rw [e] at hl
 refine sum_intListG (I.ok.hd hc) hl fun h' tk t' hk=>?_
 have es:preSum (numAt zs) zs.size=ns.sum:=by rw [preSum_eq,hns,List.take_of_length_le (by simp)]
 rw [es]
 exact⟨.int _,H,I.kept hk,⟨t',rfl⟩,q⟩
end
section
variable {X:Cx} {elt iter cnd:Expr} {x:Str} {px:Pos} {fv:List (Nat×Str)} {scope:Scope} {cl:List (Str×Addr)} {pos:Pos} {te:TE} {tt:TT} {wi:TI}
theorem ps_setCIf {i:Nat} {y:Str} {py spos:Pos} (hc:X.calm=true) (B:BlkOk X x fv scope cl) (hi:PI X (.Name x px) iter wi) (hcn:∀C s H fp,PT (blk X x fv scope cl C s H fp) cnd tt) (he:∀C s H fp,PE (blk X x fv scope cl C s H fp) elt te)
  (hN:X.N.Nodup) (hiy:X.N[i]?=some y) (hy:X.env.scope.names.lookup y=some .local)
  (hsw:swapsWith (.ListComp elt [⟨.Name x px,iter,[cnd],0⟩] scope pos) (some (.Name y py)) spos.line X.env=pure true:=by rfl)
  (hs:∀v,foldedSetIterable iter X.env v=pure v:=by intro _;rfl):
  PS X (.Assign [.Name y py] (.ListComp elt [⟨.Name x px,iter,[cnd],0⟩] scope pos) spos) (tAsg (tCompIf fv wi tt te) (gName i)):=by
 intro pins s σ H D I h
 rw [exec_Assign_Name_used _ _ _ _ hsw]
 refine wpAny_bind (wpAny_standAt (wpAny_bind ?_))
 show wpAny _ X.A (do let _ ← comprehension (.ListComp elt [⟨.Name x px,iter,[cnd],0⟩] scope pos) scope X.env _ (newList []) false (eval iter X.env) (some (assign (.Name y py) X.env))) _ _ s
 refine wpAny_bind (wpAny_mono (wpAny_comprehension_free (use:=some (assign (.Name y py) X.env)) (Q:=fun _ s'=>SP X pins D .next s') rfl hs B.clos B.kind B.names
  (thn (hi pins s σ H _ I h) fun v s1 h1=>thn h1 fun itv s2 h2=>?_)) (fun _ s' hq=>wpAny_pure (wpAny_pure hq)) fun _ _ e=>e)
 obtain⟨it,fp,tn,J,H2,e,I2,T,st2,f2,rd⟩:=h2
 subst e
 refine blk_runIf (Q:=fun x H1=>gName i x σ H1 D.nx) (RR:=fun acc C=>compPost (model X.prog X.w) X.A X.xe (some (assign (.Name y py) X.env)) (fun _ s'=>SP X pins D .next s') acc C) hc B hcn he I2 T st2 f2 rd ?_
 intro Dl C s' H' m' I' fC hn q
 show wpAny _ X.A (assign (.Name y py) X.env (.ref Dl)) _ _ _
 refine wpAny_assign_Name (store_ok2 I' hN hiy (.inl hy) (v:=.ref Dl) rfl (fun s'' I'' hab=>?_) (.inr hy))
 obtain⟨a,sb,ha⟩:=hab
 have hCa:C≠a:=by
  rcases ha with rfl | e
  ·exact fC.2.1
  ·exact Ne.symm (fC.2.2.2.2.1 _ _ e)
 exact⟨m',hn.sameBut sb hCa,fun h' sb'=>⟨_,H',I''.turned (t':=s''.toks) (fun b o hb e=>(sb'.2 b hb).trans e) fC.1 fC.2.1 fC.2.2.2.1 fC.2.2.2.2.1 fC.2.2.2.2.2,q⟩⟩
end
section
variable {prog:Program} {w:World} {A:Around} {R:Result->Shared->Prop} {I S:Addr} {fp wr:List Addr} {n:Nat} {P:Nat->Value->Prop} {St:Nat->Heap->Prop} {bt:Nat->Nat->Bool} {d:List (Str×Value)}
theorem maxD_name:(toString "max" ++ toString ".loop" : String) = "max.loop" := by decide
theorem maxD_go (W:Walks prog w A.in1 I fp wr n P St) (cm:CmpOf prog w A.in1 .Gt P bt) (nS:S∉fp):∀(m i:Nat) (z:Shared) (u:Value) (cap:Nat),n=i+1+m->St (i+1) z.heap->P (argBest bt i) u->
  z.heap.get? S=some { cls:=.type "list",dict:=none,data:=.seq #[u,u] cap,slots:=#[] }->
  (∀v g tk,P (argBest bt (n - 1)) v->(∀b o,b∉wr->b≠S->z.heap.get? b=some o->g.get? b=some o)->R (.ok (.ret v)) { z with heap:=g,toks:=tk })->codeAny (model prog w) A (.builtin "max.loop" ⟨[.ref I,.none,.ref S],d⟩) R z
 | 0,i,z,u,cap,hn,st,hp,eS,q=>by
  have nw:S∉wr:=fun h=>nS (W.sub _ h)
  refine codeAny_builtin PySem.F.entry_max_loop ?_
  rw [Around.under_plainId PySem.F.plain_max_loop _]
  show wpAny _ A.in1 (seqItems? (.ref S) >>= _) _ _ z
  refine wpAny_bind (wpAny_seqItems eS rfl ?_)
  show wpAny _ A.in1 (tryCatch (pyNext (.ref I)) _ >>= _) _ _ z
  have hin:n=i+1:=hn
  refine wpAny_bind (wpAny_tryCatch (W.done z _ _ (by rw [hin];exact st) fun g tk kp=>?_))
  have eS':=kp S _ nw eS
  show wpAny _ A.in1 (updateSeq S (fun _=>#[]) >>= _) _ _ _
  refine wpAny_bind (wpAny_updateSeq eS' rfl (wpAny_bind (wpAny_letGo (wpAny_pure (q u _ tk (by rw [hin];exact hp) fun b o nb bS e=>?_)))))
  exact (Heap.get?_update_other _ _ (Ne.symm bS)).trans (kp b o nb e)
 | m+1,i,z,u,cap,hn,st,hp,eS,q=>by
  have nw:S∉wr:=fun h=>nS (W.sub _ h)
  refine codeAny_builtin PySem.F.entry_max_loop ?_
  rw [Around.under_plainId PySem.F.plain_max_loop _]
  show wpAny _ A.in1 (seqItems? (.ref S) >>= _) _ _ z
  refine wpAny_bind (wpAny_seqItems eS rfl ?_)
  show wpAny _ A.in1 (tryCatch (pyNext (.ref I)) _ >>= _) _ _ z
  refine wpAny_bind (wpAny_tryCatch (W.item (i+1) z _ _ (by omega) st fun v g tk pv st' kp=>?_))
  have eS':=kp S _ nw eS
  show wpAny _ A.in1 (tryCatch (holding [v,v] (richCompare .Gt v u >>= _)) _ >>= _) _ _ _
  refine wpAny_bind (wpAny_tryCatch (wpAny_holding (wpAny_bind (cm (i+1) (argBest bt i) v u _ _ _ pv hp (wpAny_bind (wpAny_holding (wpAny_truthy_bool (wpAny_bind (wpAny_letGo (wpAny_pure ?_))))))))))
  cases hb:bt (i+1) (argBest bt i) with
  | true=>
   simp only [if_true]
   refine wpAny_bind (wpAny_updateSeq eS' rfl (wpAny_bind (wpAny_letGo ?_)))
   rw [maxD_name]
   refine wpAny_pure ⟨plainId_quiet PySem.F.plain_max_loop _,maxD_go W cm nS m (i+1) _ v _ (by omega) (W.frame _ _ _ st' fun b bf o e=>(Heap.get?_update_other _ _ (fun h:S=b=>nS (h ▸ bf))).trans e) (by simp only [argBest,hb,if_true];exact pv) (Heap.get?_update_self _ eS' rfl) fun v' g' tk' pv' kp'=>?_⟩
   exact q v' g' tk' pv' fun b o nb bS e=>kp' b o nb bS ((Heap.get?_update_other _ _ (Ne.symm bS)).trans (kp b o nb e))
  | false=>
   simp only [Bool.false_eq_true,if_false]
   refine wpAny_bind (wpAny_letGo ?_)
   rw [maxD_name]
   exact wpAny_pure ⟨plainId_quiet PySem.F.plain_max_loop _,maxD_go W cm nS m (i+1) _ u cap (by omega) st' (by simp only [argBest,hb,Bool.false_eq_true,if_false];exact hp) eS' fun v' g' tk' pv' kp'=>q v' g' tk' pv' fun b o nb bS e=>kp' b o nb bS (kp b o nb e)⟩
theorem maxD_first (W:Walks prog w A.in1 I fp wr n P St) (cm:CmpOf prog w A.in1 .Gt P bt) (nS:S∉fp) {z:Shared} {cap:Nat} {x:Value} {k:Str} (st:St 0 z.heap) (eS:z.heap.get? S=some { cls:=.type "list",dict:=none,data:=.seq #[] cap,slots:=#[] })
  (q:∀v g tk,(n=0∧v=x)∨(0 < n∧P (argBest bt (n - 1)) v)->(∀b o,b∉wr->b≠S->z.heap.get? b=some o->g.get? b=some o)->R (.ok (.ret v)) { z with heap:=g,toks:=tk }):codeAny (model prog w) A (.builtin "max.loop" ⟨[.ref I,.none,.ref S],[(k,x)]⟩) R z:=by
 have nw:S∉wr:=fun h=>nS (W.sub _ h)
 refine codeAny_builtin PySem.F.entry_max_loop ?_
 rw [Around.under_plainId PySem.F.plain_max_loop _]
 show wpAny _ A.in1 (seqItems? (.ref S) >>= _) _ _ z
 refine wpAny_bind (wpAny_seqItems eS rfl ?_)
 show wpAny _ A.in1 (tryCatch (pyNext (.ref I)) _ >>= _) _ _ z
 by_cases n0:n=0
 ·refine wpAny_bind (wpAny_tryCatch (W.done z _ _ (by rw [n0];exact st) fun g tk kp=>?_))
  show wpAny _ A.in1 (rule _ >>= _) _ _ _
  refine wpAny_bind (wpAny_rule ?_)
  exact wpAny_pure (q x g tk (.inl ⟨n0,rfl⟩) fun b o nb bS e=>kp b o nb e)
 ·refine wpAny_bind (wpAny_tryCatch (W.item 0 z _ _ (by omega) st fun v g tk pv st' kp=>?_))
  have eS':=kp S _ nw eS
  show wpAny _ A.in1 (updateSeq S (fun _=>#[v,v]) >>= _) _ _ _
  refine wpAny_bind (wpAny_updateSeq eS' rfl ?_)
  rw [maxD_name]
  refine wpAny_pure ⟨plainId_quiet PySem.F.plain_max_loop _,maxD_go W cm nS (n - 1) 0 _ v _ (by omega) (W.frame _ _ _ st' fun b bf o e=>(Heap.get?_update_other _ _ (fun h:S=b=>nS (h ▸ bf))).trans e) pv (Heap.get?_update_self _ eS' rfl) fun v' g' tk' pv' kp'=>?_⟩
  exact q v' g' tk' (.inr ⟨by omega,pv'⟩) fun b o nb bS e=>kp' b o nb bS ((Heap.get?_update_other _ _ (Ne.symm bS)).trans (kp b o nb e))
end
theorem maxD_args (a v:Value):argsOk "max" ⟨[a],[(Str.ofString "default",v)]⟩:=by unfold argsOk;kernel_rfl
theorem maxD_call {prog:Program} {w:World} {A:Around} {E:Value->Shared->Prop} {s:Shared} {l:Addr} {xs:Array (Int×Tok)} {x:Value} {Q:Value->Shared->Prop} (hh:A.handled=none) (hl:s.heap.IsList l (intItems xs))
  (q:∀v h' tk,(xs.size=0∧v=x)∨(0 < xs.size∧(intItems xs)[argBest (fun i j=>decide (numAt xs i > numAt xs j)) (xs.size - 1)]?=some v)->(∀b o,s.heap.get? b=some o->h'.get? b=some o)->Q v { s with heap:=h',toks:=tk }):
  wpAny (model prog w) A (call (.builtin "max") [.ref l] [(Str.ofString "default",x)]) Q E s:=by
 refine PyProof.Rows.kmk_tree PySem.F.kind_max PySem.F.plain_max PySem.F.entry_max (maxD_args _ _) ?_
 show wpAny _ A.in1 (Builtin.Builtins.bindParams "max" ["key","default"] 0 ⟨[],[(Str.ofString "default",x)]⟩ >>= _) _ _ s
 refine wpAny_bind (wpAny_of_eq (show Builtin.Builtins.bindParams "max" ["key","default"] 0 ⟨[],[(Str.ofString "default",x)]⟩=pure [none,some x] from rfl) ?_)
 refine wpAny_bind (wpAny_pure (wpAny_bind (iter_intList hl fun s₂ e st hfp hlI=>?_)))
 subst e
 refine wpAny_bind (wpAny_newObj_type ?_)
 rw [maxD_name]
 have W:=Walks.list (prog:=prog) (w:=w) (A:=A.in1) hh _ l hlI (intItems xs)
 refine wpAny_pure ⟨plainId_quiet PySem.F.plain_max_loop _,maxD_first W (CmpOf.ints_gt (numAt xs) (fun _ _=>intItems_at)) (fun hm=>Nat.lt_irrefl _ (hfp _ hm)) (W.frame _ _ _ st fun b _ o e=>Heap.get?_push_of_some _ e) (Heap.get?_push_size _ rfl) fun v h' tk hv hk=>?_⟩
 refine q v h' tk (by simpa [intItems] using hv) (old_kept (s:=s) (l:=l) fun b o nb e=>?_)
 exact hk b o nb (Nat.ne_of_lt (Heap.lt_size e)) (Heap.get?_push_of_some _ e)
def tMaxD (K:W.Frag) (t tk:TA):TE:=fun σ H Q=>t σ H fun vs H1=>tk σ H1 fun zs H2=>∃p ns d,vs=[.ref p]∧zs=[.int d]∧SqL K H2 p (ns.map V.int)∧∀M,(ns=[]∧M=d)∨(M∈ns∧∀a∈ns,a<=M)->Q (.int M) H2
theorem pe_maxD {X:Cx} {p pos kpos:Pos} {e k:Expr} {t tk:TA} (hc:X.calm=true) (hg:Gl X "max") (hm:X.mg "max" = none) (ha:PA X [e] t) (hkw:PK X [⟨some "default",k,kpos⟩] tk)
  (he:backTo pos (starEach [e] X.env)=(false,eval e X.env) :: backTo pos (starEach [] X.env):=by rfl) (hpl:(backTo pos (starEach [e] X.env)).any (·.1)=false:=by rfl)
  (hall:(backToKw pos (keywordEach [⟨some "default",k,kpos⟩] X.env)).all (·.1.isSome)=true:=by rfl) (hks:(backToKw pos (keywordEach [⟨some "default",k,kpos⟩] X.env)).filterMap (·.1)=[Str.ofString "default"]:=by rfl)
  (hno:(backToKw pos (keywordEach [⟨some "default",k,kpos⟩] X.env)).any (·.1.isNone)=false:=by rfl):
  PE X (.Call (.Name "max" p) [e] [⟨some "default",k,kpos⟩] pos) (tMaxD X.K t tk):=by
 intro pins s σ H Q I h
 refine wpAny_Call_Name_kw (ld_blt I hg hm bt_max ?_ (by decide) (by decide))
 refine PyProof.Rows.callWith_kw (thn (ha pos pins s σ H _ I h) fun us s1 ⟨vs,H1,I1,r,q⟩=>?_) he hpl hall hno
 refine thn (hkw pos pins s1 σ H1 _ I1 q) fun kws s2 ⟨zs,H2,I2,rz,q2⟩=>?_
 rw [hks]
 obtain⟨a,ns,d,rfl,rfl,hq,q3⟩:=q2
 obtain⟨u,rfl,rx⟩:=vals1 r
 obtain⟨u',rfl,rx'⟩:=vals1 rz
 obtain⟨td,rfl⟩:=rx'
 cases rx
 obtain⟨its,r',pl,hz⟩:=I2.list hq
 have hi:=ints_are r'
 obtain⟨zs,e⟩:=hi.allInts.items
 have hns:ns=zs.toList.map (·.1):=by rw [← hi.numsOf,← nums_intItems,← e]
 have hl:=pl.isList
 rw [e] at hl
 refine maxD_call (x:=.int d td) (I2.ok.hd hc) hl fun v h' tk hv hk=>?_
 rcases hv with ⟨h0,rfl⟩ | ⟨h0,hv⟩
 ·exact⟨.int _,H2,I2.kept hk,⟨td,rfl⟩,q3 d (.inl ⟨by rw [hns,List.map_eq_nil_iff];exact List.eq_nil_of_length_eq_zero (by rw [Array.length_toList];exact h0),rfl⟩)⟩
 ·obtain⟨tv,rfl⟩:=intItems_at hv
  obtain⟨g1,g2⟩:=argBest_gt (numAt zs) (zs.size - 1)
  refine⟨.int _,H2,I2.kept hk,⟨tv,rfl⟩,q3 _ (.inr ⟨at_best hns (by omega),fun x hx=>?_⟩)⟩
  obtain⟨i,hi,rfl⟩:=of_best hns hx
  exact g2 i (by omega)
theorem a_maxD {K:W.Frag} {t tk:TA} {σ:St} {H:Hp} {Q:VK}:tMaxD K t tk σ H Q=t σ H fun vs H1=>tk σ H1 fun zs H2=>∃p ns d,vs=[.ref p]∧zs=[.int d]∧SqL K H2 p (ns.map V.int)∧∀M,(ns=[]∧M=d)∨(M∈ns∧∀a∈ns,a<=M)->Q (.int M) H2:=rfl
theorem a_inS {K:W.Frag} {neg:Bool} {x y:V} {H:Hp} {Q:VK}:rIn K neg x y H Q=∃p xs,y=.ref p∧(SqL K H p xs∨SqT K H p xs)∧flatV x=true∧xs.all flatV=true∧Q (.bl (if neg then !inV x xs else inV x xs)) H:=rfl
theorem inV_int (n:Int) (ns:List Int):inV (.int n) (ns.map V.int)=decide (n∈ns):=by
 unfold inV
 induction ns with
 | nil=>rfl
 | cons m ns ih=>
  rw [List.map_cons,List.any_cons,ih]
  have:eqV (.int m) (.int n)=decide (n=m):=by
   rw [Bool.eq_iff_iff]
   simp only [eqV,beq_iff_eq,decide_eq_true_eq]
   exact eq_comm
  rw [this];simp
theorem flat_ints (ns:List Int):(ns.map V.int).all flatV=true:=by
 induction ns with
 | nil=>rfl
 | cons m ns ih=>rw [List.map_cons,List.all_cons,ih];rfl
section
variable {X:Cx} {k:Nat} {f C:Addr} {fd:FuncData} {ps:List Str} {sp:Sp} {m:Str} {pos apos:Pos} {o e:Expr} {es:List Expr} {ta:TE} {t:TA}
end
section
variable {K:W.Frag} {C:Addr} {m f:Str} {sp:Sp} {dvs:List V} {E:XK} {ta tv:TE} {t:TA} {σ:St} {H:Hp} {Q:VK} {D:Ends}
theorem a_fld:tFld K ta f σ H Q=ta σ H fun x H1=>∃a C dx fs v,x=.ref a∧H1 a=some (.ins C dx fs)∧Cls K C∧NoAttr K C f∧fs.lookup f=some v∧Q v H1:=rfl
theorem a_sfld:sFld K ta tv f D σ H=tv σ H fun y H1=>ta σ H1 fun x H2=>∃a C dx fs,x=.ref a∧H2 a=some (.ins C dx fs)∧Cls K C∧NoAttr K C f∧fs.length < 1000∧D.nx σ (upd H2 a (.ins C dx (putF f y fs))):=rfl
theorem a_meth:tMeth C m sp dvs E ta t σ H Q=ta σ H fun x H1=>∃a dx fs,x=.ref a∧H1 a=some (.ins C dx fs)∧fs.lookup m=none∧t σ H1 fun vs H2=>sp (x :: (vs++dvs)) H2 Q E:=rfl
theorem a_make:tMake C sp dvs E t σ H Q=t σ H fun vs H1=>∀x dx,H1 x=none->H1 dx=none->dx≠x->sp (.ref x :: (vs++dvs)) (upd (upd H1 dx (.own x)) x (.ins C dx [])) (fun v H2=>v=.non∧Q (.ref x) H2) E:=rfl
end
end L2
namespace My
def trim (xs:List Int):List Int:=(xs.reverse.dropWhile (· == 0)).reverse
theorem trim_nil:trim []=[]:=rfl
theorem trim_zero (xs:List Int):trim (xs++[0])=trim xs:=by
 unfold trim;rw [List.reverse_append];rfl
theorem trim_ne (xs:List Int) {a:Int} (h:a≠0):trim (xs++[a])=xs++[a]:=by
 unfold trim
 rw [List.reverse_append]
 have:([a].reverse++xs.reverse).dropWhile (· == 0)=a :: xs.reverse:=by
  show (a :: xs.reverse).dropWhile (· == 0)=_
  rw [List.dropWhile_cons]
  simp [h]
 rw [this];simp
def co (xs:List Int) (k:Nat):Int:=xs.getD k 0
theorem co_nil (k:Nat):co [] k=0:=rfl
theorem co_ge {xs:List Int} {k:Nat} (h:xs.length<=k):co xs k=0:=by
 unfold co;rw [List.getD_eq_getElem?_getD,List.getElem?_eq_none h];rfl
theorem co_lt {xs:List Int} {k:Nat} (h:k < xs.length):co xs k=xs[k]:=by
 unfold co;rw [List.getD_eq_getElem?_getD,List.getElem?_eq_getElem h];rfl
theorem co_snoc (xs:List Int) (a:Int) (k:Nat):co (xs++[a]) k=if k=xs.length then a else co xs k:=by
 by_cases h:k < xs.length
 ·rw [if_neg (by omega)]
  unfold co;rw [List.getD_eq_getElem?_getD,List.getD_eq_getElem?_getD,List.getElem?_append_left h]
 ·by_cases h2:k=xs.length
  ·subst h2;rw [if_pos rfl];unfold co;rw [List.getD_eq_getElem?_getD,List.getElem?_append_right (Nat.le_refl _)];simp
  ·rw [if_neg h2,co_ge (by simp;omega),co_ge (by omega)]
theorem snoc_ind {P:List Int->Prop} (h0:P []) (h1:∀xs a,P xs->P (xs++[a])) (xs:List Int):P xs:=by
 have:∀ys:List Int,P ys.reverse:=fun ys=>by
  induction ys with
  | nil=>exact h0
  | cons a r ih=>rw [List.reverse_cons];exact h1 _ _ ih
 have:=this xs.reverse
 rwa [List.reverse_reverse] at this
theorem trim_co (xs:List Int) (k:Nat):co (trim xs) k=co xs k:=by
 refine snoc_ind (P:=fun xs=>co (trim xs) k=co xs k) rfl (fun xs a ih=>?_) xs
 by_cases h:a=0
 ·subst h;rw [trim_zero,ih,co_snoc]
  by_cases h2:k=xs.length
  ·rw [if_pos h2,co_ge (by omega)]
  ·rw [if_neg h2]
 ·rw [trim_ne _ h]
def Nml (xs:List Int):Prop:=∀a ys,xs=ys++[a]->a≠0
theorem trim_nml (xs:List Int):Nml (trim xs):=by
 refine snoc_ind (P:=fun xs=>Nml (trim xs)) (fun a ys h=>?_) (fun xs a ih=>?_) xs
 ·rw [trim_nil] at h;simp at h
 ·by_cases h:a=0
  ·subst h;rw [trim_zero];exact ih
  ·rw [trim_ne _ h]
   intro b ys e
   have:=List.append_inj' e rfl
   have e2:a=b:=by simpa using this.2
   rw [← e2];exact h
theorem nml_trim {xs:List Int} (h:Nml xs):trim xs=xs:=by
 rcases List.eq_nil_or_concat xs with rfl | ⟨ys,a,rfl⟩
 ·rfl
 ·rw [List.concat_eq_append] at *;exact trim_ne _ (h a ys rfl)
theorem nml_len {xs:List Int} (h:Nml xs) {n:Nat} (hz:∀k,n<=k->co xs k=0):xs.length<=n:=by
 rcases List.eq_nil_or_concat xs with rfl | ⟨ys,a,rfl⟩
 ·exact Nat.zero_le _
 ·rw [List.concat_eq_append] at *
  have ha:=h a ys rfl
  by_cases hn:(ys++[a]).length<=n
  ·exact hn
  ·have:=hz ys.length (by simp at hn;omega)
   rw [co_snoc,if_pos rfl] at this
   exact absurd this ha
theorem co_ext {xs ys:List Int} (hl:xs.length=ys.length) (h:∀k,k < xs.length->co xs k=co ys k):xs=ys:=by
 refine List.ext_getElem hl fun k h1 h2=>?_
 have:=h k h1
 rw [co_lt h1,co_lt h2] at this;exact this
theorem nml_ext {xs ys:List Int} (hx:Nml xs) (hy:Nml ys) (h:∀k,co xs k=co ys k):xs=ys:=by
 have l1:xs.length<=ys.length:=nml_len hx fun k hk=>by rw [h,co_ge hk]
 have l2:ys.length<=xs.length:=nml_len hy fun k hk=>by rw [← h,co_ge hk]
 exact co_ext (by omega) fun k _=>h k
theorem trim_len (xs:List Int):(trim xs).length<=xs.length:=nml_len (trim_nml _) fun k hk=>by rw [trim_co,co_ge hk]
theorem trim_take {xs:List Int} {n:Nat} (hn:n<=xs.length) (hz:∀k,n<=k->co xs k=0) (he:n=0∨co xs (n - 1)≠0):trim xs=xs.take n:=by
 have c:∀k,co (xs.take n) k=co xs k:=fun k=>by
  by_cases hk:k < n
  ·unfold co;rw [List.getD_eq_getElem?_getD,List.getD_eq_getElem?_getD,List.getElem?_take_of_lt hk]
  ·rw [co_ge (by simp;omega),hz k (by omega)]
 have nm:Nml (xs.take n):=fun a ys e=>by
  have hl:ys.length+1=n:=by
   have:=congrArg List.length e
   rw [List.length_take,List.length_append,List.length_singleton] at this;omega
  rcases he with h0 | h0
  ·omega
  ·have:=c (n - 1)
   rw [e,co_snoc,if_pos (by omega)] at this
   rw [this];exact h0
 exact nml_ext (trim_nml _) nm fun k=>by rw [trim_co,c]
end My
namespace My
def sumN:Nat->(Nat->Int)->Int
 | 0,_=>0
 | n+1,f=>sumN n f+f n
theorem sumN_congr {n:Nat} {f g:Nat->Int} (h:∀j,j < n->f j=g j):sumN n f=sumN n g:=by
 induction n with
 | zero=>rfl
 | succ n ih=>simp only [sumN];rw [ih fun j hj=>h j (by omega),h n (by omega)]
theorem sumN_zero {n:Nat} {f:Nat->Int} (h:∀j,j < n->f j=0):sumN n f=0:=by
 induction n with
 | zero=>rfl
 | succ n ih=>simp only [sumN];rw [ih fun j hj=>h j (by omega),h n (by omega)];rfl
def cz (xs:List Int) (k j:Nat):Int:=if j<=k then co xs (k - j) else 0
def cv (one other:List Int) (l k:Nat):Int:=sumN l fun j=>co one j * cz other k j
theorem co_set (xs:List Int) (i k:Nat) (v:Int) (h:i < xs.length):co (xs.set i v) k=if k=i then v else co xs k:=by
 by_cases hk:k < xs.length
 ·rw [co_lt (by simpa using hk),List.getElem_set,co_lt hk]
  by_cases e:k=i
  ·rw [if_pos e,if_pos e.symm]
  ·rw [if_neg e,if_neg (Ne.symm e)]
 ·rw [co_ge (by simp;omega),if_neg (by omega),co_ge (by omega)]
end My
namespace My
def val (n:Int):List Int->Int
 | []=>0
 | c :: r=>c+n * val n r
def hd (xs:List Int):Int:=xs.headD 0
def synth (b:Int):List Int->List Int
 | []=>[]
 | c :: r=>(c+b * hd (synth b r)) :: synth b r
theorem synth_len (b:Int):∀xs,(synth b xs).length=xs.length
 | []=>rfl
 | _ :: r=>by simp [synth,synth_len b r]
def shiftN (b:Int):Nat->List Int->List Int
 | 0,_=>[]
 | n+1,xs=>hd (synth b xs) :: shiftN b n (synth b xs).tail
def shiftL (b:Int) (xs:List Int):List Int:=shiftN b xs.length xs
theorem val_split (b x:Int):∀xs,val x xs=hd (synth b xs)+(x - b) * val x (synth b xs).tail
 | []=>by simp [val,synth,hd]
 | c :: r=>by
  have ih:=val_split b x r
  cases e:synth b r with
  | nil=>
   rw [e] at ih
   simp only [hd,List.headD_nil,List.tail_nil,val,Int.mul_zero,Int.add_zero] at ih
   simp only [val,synth,e,hd,List.headD_nil,List.headD_cons,List.tail_cons,ih,Int.mul_zero,Int.add_zero]
  | cons h q=>
   rw [e] at ih
   simp only [hd,List.headD_cons,List.tail_cons] at ih
   simp only [val,synth,e,hd,List.headD_cons,List.tail_cons,ih]
   simp only [Int.mul_add,Int.sub_mul,Int.mul_sub]
   have:x * (x * val x q) - x * (b * val x q)=x * (x * val x q) - b * (x * val x q):=by
    rw [← Int.mul_assoc x b,Int.mul_comm x b,Int.mul_assoc b x]
   omega
theorem val_shiftN (b n:Int):∀(k:Nat) (xs:List Int),xs.length=k->val n (shiftN b k xs)=val (n+b) xs
 | 0,xs,h=>by
  have:xs=[]:=List.eq_nil_of_length_eq_zero h
  subst this;rfl
 | k+1,xs,h=>by
  show hd (synth b xs)+n * val n (shiftN b k (synth b xs).tail)=_
  rw [val_shiftN b n k _ (by rw [List.length_tail,synth_len,h];rfl),val_split b (n+b) xs]
  have:n+b - b=n:=by omega
  rw [this]
theorem val_shift (b n:Int) (xs:List Int):val n (shiftL b xs)=val (n+b) xs:=val_shiftN b n _ xs rfl
theorem shiftN_len (b:Int):∀(k:Nat) (xs:List Int),(shiftN b k xs).length=k
 | 0,_=>rfl
 | k+1,xs=>by simp [shiftN,shiftN_len b k]
theorem shift_len (b:Int) (xs:List Int):(shiftL b xs).length=xs.length:=shiftN_len b _ xs
theorem val_zero:∀(xs:List Int) (M:Int),(∀n,M < n->val n xs=0)->∀x∈xs,x=0
 | [],_,_,_,h=>nomatch h
 | c :: r,M,h,x,hx=>by
  have hc:c=0:=by
   have h1:=h (max M 0+c.natAbs+1) (by omega)
   simp only [val] at h1
   have hd:(max M 0+c.natAbs+1)∣c:=⟨-(val (max M 0+c.natAbs+1) r),by rw [Int.mul_neg];omega⟩
   by_cases hz:c=0
   ·exact hz
   ·have:=Int.natAbs_dvd_natAbs.mpr hd
    have:=Nat.le_of_dvd (by omega) this
    omega
  have hr:∀n,max M 0 < n->val n r=0:=fun n hn=>by
   have h1:=h n (by omega)
   simp only [val,hc,Int.zero_add] at h1
   rcases Int.mul_eq_zero.mp h1 with z | z
   ·omega
   ·exact z
  rcases List.mem_cons.mp hx with rfl | hx
  ·exact hc
  ·exact val_zero r _ hr x hx
theorem val_sub (n:Int):∀(xs ys:List Int),xs.length=ys.length->val n (List.zipWith (· - ·) xs ys)=val n xs - val n ys
 | [],[],_=>rfl
 | x :: xs,y :: ys,h=>by
  have ih:=val_sub n xs ys (by simpa using h)
  simp only [List.zipWith_cons_cons,val,ih,Int.mul_sub];omega
theorem zip_zero:∀(xs ys:List Int),xs.length=ys.length->(∀d∈List.zipWith (· - ·) xs ys,d=0)->xs=ys
 | [],[],_,_=>rfl
 | x :: xs,y :: ys,h,hz=>by
  have h1:=hz (x - y) (by simp)
  have h2:=zip_zero xs ys (by simpa using h) fun d hd=>hz d (by simp [hd])
  rw [h2,show x=y by omega]
theorem val_ext {xs ys:List Int} (hl:xs.length=ys.length) (h:∀n,val n xs=val n ys):xs=ys:=
 zip_zero xs ys hl (val_zero _ 0 fun n _=>by rw [val_sub n xs ys hl,h n];omega)
end My
namespace My
def mixed (b:Int) (zs:List Int) (j:Nat):List Int:=zs.take j++synth b (zs.drop j)
theorem mixed_len (b:Int) (zs:List Int) (j:Nat):(mixed b zs j).length=zs.length:=by
 unfold mixed;rw [List.length_append,synth_len,← List.length_append,List.take_append_drop]
theorem mixed_zero (b:Int) (zs:List Int):mixed b zs 0=synth b zs:=by simp [mixed]
theorem mixed_last (b:Int) (zs:List Int) (h:zs≠[]):mixed b zs (zs.length - 1)=zs:=by
 rcases List.eq_nil_or_concat zs with rfl | ⟨ys,a,rfl⟩
 ·exact absurd rfl h
 ·rw [List.concat_eq_append]
  unfold mixed
  have e:(ys++[a]).length - 1=ys.length:=by simp
  rw [e,List.take_left,List.drop_left]
  simp [synth,hd]
theorem mixed_at (b:Int) (zs:List Int) (j:Nat) (h:j < zs.length):(mixed b zs (j+1))[j]?=some zs[j]:=by
 unfold mixed
 rw [List.getElem?_append_left (by rw [List.length_take];omega),List.getElem?_take_of_lt (by omega),List.getElem?_eq_getElem h]
theorem mixed_next (b:Int) (zs:List Int) (j:Nat) (h:j+1 < zs.length):(mixed b zs (j+1))[j+1]?=some (hd (synth b (zs.drop (j+1)))):=by
 unfold mixed
 rw [List.getElem?_append_right (by rw [List.length_take];omega)]
 have e:j+1 - (zs.take (j+1)).length=0:=by rw [List.length_take];omega
 have hl:0 < (synth b (zs.drop (j+1))).length:=by rw [synth_len,List.length_drop];omega
 rw [e]
 cases q:synth b (zs.drop (j+1)) with
 | nil=>rw [q] at hl;exact absurd hl (by simp)
 | cons x r=>simp [hd]
theorem mixed_set (b:Int) (zs:List Int) (j:Nat) (h:j < zs.length):(mixed b zs (j+1)).set j (zs[j]+b * hd (synth b (zs.drop (j+1))))=mixed b zs j:=by
 unfold mixed
 rw [List.take_succ_eq_append_getElem h,List.append_assoc,List.set_append_right _ _ (by rw [List.length_take];omega)]
 have e:j - (zs.take j).length=0:=by rw [List.length_take];omega
 rw [e,List.drop_eq_getElem_cons h]
 rfl
theorem shift_turn (b:Int) (m:Nat) (zs:List Int) (h:zs.length=m+1):shiftN b (m+1) zs=hd (synth b zs) :: shiftN b m (synth b zs).tail∧synth b zs=hd (synth b zs) :: (synth b zs).tail∧(synth b zs).tail.length=m:=by
 refine⟨rfl,?_,by rw [List.length_tail,synth_len,h];rfl⟩
 have hl:=synth_len b zs
 cases q:synth b zs with
 | nil=>rw [q,h] at hl;simp at hl
 | cons x r=>simp [hd]
theorem shift_one (b c:Int):shiftN b 1 [c]=[c]:=by simp [shiftN,synth,hd]
end My
namespace My
theorem nml_last {xs:List Int}:Nml xs↔∀a,xs.getLast?=some a->a≠0:=by
 constructor
 ·intro h a e
  rcases List.eq_nil_or_concat xs with rfl | ⟨ys,b,rfl⟩
  ·simp at e
  ·rw [List.concat_eq_append] at *
   rw [List.getLast?_concat] at e
   rw [← Option.some.inj e];exact h b ys rfl
 ·intro h a ys e
  exact h a (by rw [e,List.getLast?_concat])
end My
namespace My
theorem gcd_split {t b s:Int} (hb:b≠0) (hs:s=if b < 0 then -((Nat.gcd t.natAbs b.natAbs:Nat):Int) else ((Nat.gcd t.natAbs b.natAbs:Nat):Int)):
  s≠0∧s.natAbs=Nat.gcd t.natAbs b.natAbs∧t=s * t.fdiv s∧b=s * b.fdiv s∧1<=b.fdiv s∧Nat.gcd (t.fdiv s).natAbs (b.fdiv s).natAbs=1:=by
 have gp:0 < Nat.gcd t.natAbs b.natAbs:=Nat.gcd_pos_of_pos_right _ (by omega)
 have sa:s.natAbs=Nat.gcd t.natAbs b.natAbs:=by
  rw [hs];split
  ·rw [Int.natAbs_neg,Int.natAbs_natCast]
  ·rw [Int.natAbs_natCast]
 have s0:s≠0:=by intro z;rw [z] at sa;simp at sa;omega
 have dt:s∣t:=Int.natAbs_dvd_natAbs.mp (by rw [sa];exact Nat.gcd_dvd_left _ _)
 have db:s∣b:=Int.natAbs_dvd_natAbs.mp (by rw [sa];exact Nat.gcd_dvd_right _ _)
 obtain⟨c,hc⟩:=dt
 obtain⟨d,hd⟩:=db
 have ec:t.fdiv s=c:=by rw [hc];exact Int.mul_fdiv_cancel_left c s0
 have ed:b.fdiv s=d:=by rw [hd];exact Int.mul_fdiv_cancel_left d s0
 rw [ec,ed]
 refine⟨s0,sa,hc,hd,?_,?_⟩
 ·by_cases hn:b < 0
  ·rw [if_pos hn] at hs
   have:s < 0:=by omega
   rcases Int.lt_or_le 0 d with h | h
   ·omega
   ·have:=Int.mul_nonneg_of_nonpos_of_nonpos (Int.le_of_lt this) h
    omega
  ·rw [if_neg hn] at hs
   have:0 < s:=by omega
   rcases Int.lt_or_le 0 d with h | h
   ·omega
   ·have:=Int.mul_nonpos_of_nonneg_of_nonpos (Int.le_of_lt this) h
    omega
 ·have e1:t.natAbs=s.natAbs * c.natAbs:=by rw [← Int.natAbs_mul,← hc]
  have e2:b.natAbs=s.natAbs * d.natAbs:=by rw [← Int.natAbs_mul,← hd]
  have e3:=sa
  rw [e1,e2,Nat.gcd_mul_left] at e3
  have sp:0 < s.natAbs:=by omega
  exact Nat.eq_of_mul_eq_mul_left sp (by omega)
theorem fdiv_le {t s:Int} (s0:s≠0) (h:t=s * t.fdiv s):(t.fdiv s).natAbs<=t.natAbs:=by
 have e:t.natAbs=s.natAbs * (t.fdiv s).natAbs:=by rw [← Int.natAbs_mul,← h]
 rw [e]
 exact Nat.le_mul_of_pos_left _ (by omega)
end My
namespace My
def pm (f g:Nat->Int) (k:Nat):Int:=sumN (k+1) fun j=>f j * g (k - j)
theorem sumN_one {n i:Nat} {f:Nat->Int} (hi:i < n) (h:∀j,j < n->j≠i->f j=0):sumN n f=f i:=by
 induction n with
 | zero=>omega
 | succ n ih=>
  simp only [sumN]
  by_cases e:i=n
  ·subst e
   rw [sumN_zero fun j hj=>h j (by omega) (by omega)];omega
  ·rw [ih (by omega) fun j hj hne=>h j (by omega) hne,h n (by omega) (Ne.symm e)];omega
theorem pm_zero {f g:Nat->Int} (h:∀j,g j=0) (k:Nat):pm f g k=0:=sumN_zero fun j _=>by rw [h];simp
theorem pm_top {g d:Nat->Int} {m t:Nat} (hg:∀j,m+1<=j->g j=0) (hd:∀j,t+1<=j->d j=0):pm g d (t+m)=g m * d t:=by
 unfold pm
 rw [sumN_one (i:=m) (by omega) fun j hj hne=>?_]
 ·rw [show t+m - m=t by omega]
 ·by_cases h:j < m
  ·rw [hd (t+m - j) (by omega)];simp
  ·rw [hg j (by omega)];simp
def Div (one other q:List Int):Prop:=∀k,co one k=pm (co other) (co q) k
theorem co_last {xs:List Int} (h:Nml xs) (hne:xs≠[]):co xs (xs.length - 1)≠0:=by
 rcases List.eq_nil_or_concat xs with rfl | ⟨ys,a,rfl⟩
 ·exact absurd rfl hne
 ·rw [List.concat_eq_append] at *
  rw [show (ys++[a]).length - 1=ys.length by simp,co_snoc,if_pos rfl]
  exact h a ys rfl
theorem co_over {xs:List Int} (j:Nat) (h:xs.length - 1+1<=j):co xs j=0:=co_ge (by omega)
theorem div_len {one other q:List Int} (ho:Nml other) (hne:other≠[]) (h1:Nml one) (hq:Nml q) (h:Div one other q) (hone:one≠[]):q≠[]∧one.length+1=q.length+other.length:=by
 have qne:q≠[]:=by
  intro z
  have:=co_last h1 hone
  rw [h,z] at this
  exact this (pm_zero (fun j=>rfl) _)
 have lq:0 < q.length:=List.length_pos_iff.mpr qne
 have lo:0 < other.length:=List.length_pos_iff.mpr hne
 have l1:0 < one.length:=List.length_pos_iff.mpr hone
 refine⟨qne,?_⟩
 have top:=pm_top (g:=co other) (d:=co q) (m:=other.length - 1) (t:=q.length - 1) (fun j hj=>co_over j hj) (fun j hj=>co_over j hj)
 rw [← h] at top
 have tne:co one (q.length - 1+(other.length - 1))≠0:=by
  rw [top]
  intro z
  rcases Int.mul_eq_zero.mp z with z | z
  ·exact co_last ho hne z
  ·exact co_last hq qne z
 have lt:q.length - 1+(other.length - 1) < one.length:=by
  by_cases hlt:q.length - 1+(other.length - 1) < one.length
  ·exact hlt
  ·exact absurd (co_ge (by omega)) tne
 have big:one.length<=q.length - 1+(other.length - 1)+1:=nml_len h1 fun k hk=>by
  rw [h]
  refine sumN_zero fun j hj=>?_
  by_cases hjm:j < other.length
  ·rw [co_ge (xs:=q) (by omega)];simp
  ·rw [co_ge (xs:=other) (by omega)];simp
 omega
end My
namespace My
theorem nml_nil:Nml []:=fun a ys e=>by simp at e
theorem nml_zero {xs:List Int} (h:Nml xs) (hz:∀k,co xs k=0):xs=[]:=nml_ext h nml_nil fun k=>by rw [hz];rfl
end My
namespace My
theorem val_add (n:Int):∀(xs ys:List Int),xs.length=ys.length->val n (List.zipWith (·+·) xs ys)=val n xs+val n ys
 | [],[],_=>rfl
 | x :: xs,y :: ys,h=>by
  have ih:=val_add n xs ys (by simpa using h)
  simp only [List.zipWith_cons_cons,val,ih,Int.mul_add];omega
theorem val_scaled (n b:Int):∀xs:List Int,val n (xs.map (fun x=>b * x)++[0])=b * val n xs
 | []=>by simp [val]
 | x :: xs=>by
  have ih:=val_scaled n b xs
  simp only [List.map_cons,List.cons_append,val,ih,Int.mul_add]
  rw [← Int.mul_assoc n b,Int.mul_comm n b,Int.mul_assoc]
def hstep (b c:Int) (f:List Int):List Int:=List.zipWith (·+·) (c :: f) (f.map (fun x=>b * x)++[0])
theorem hstep_len (b c:Int) (f:List Int):(hstep b c f).length=f.length+1:=by simp [hstep]
theorem val_hstep (n b c:Int) (f:List Int):val n (hstep b c f)=c+(n+b) * val n f:=by
 unfold hstep
 rw [val_add n _ _ (by simp),val_scaled]
 simp only [val,Int.add_mul];omega
def movedL (b:Int):List Int->List Int
 | []=>[]
 | c :: r=>hstep b c (movedL b r)
theorem moved_len (b:Int):∀xs,(movedL b xs).length=xs.length
 | []=>rfl
 | c :: r=>by rw [movedL,hstep_len,moved_len b r];rfl
theorem val_moved (b n:Int):∀xs,val n (movedL b xs)=val (n+b) xs
 | []=>rfl
 | c :: r=>by rw [movedL,val_hstep,val_moved b n r];rfl
theorem co_cons (c:Int) (f:List Int) (j:Nat):co (c :: f) j=if j=0 then c else co f (j - 1):=by
 cases j with
 | zero=>rfl
 | succ j=>rw [if_neg (by omega)];rfl
def Clear (ys:List Int):Prop:=hd ys≠0∧∀y∈ys,0<=y * hd ys
theorem val_sign {n:Int} (hn:0<=n) (c:Int):∀ys:List Int,(∀y∈ys,0<=y * c)->0<=val n ys * c
 | [],_=>by simp [val]
 | y :: ys,h=>by
  have ih:=val_sign hn c ys fun z hz=>h z (List.mem_cons_of_mem _ hz)
  have hy:=h y List.mem_cons_self
  simp only [val,Int.add_mul,Int.mul_assoc]
  have:=Int.mul_nonneg hn ih
  omega
theorem clear_val {n:Int} (hn:0<=n) {ys:List Int} (h:Clear ys):val n ys≠0:=by
 cases ys with
 | nil=>exact absurd rfl h.1
 | cons c r=>
  obtain⟨h1,h2⟩:=h
  have h1:c≠0:=h1
  have h2:∀y∈c :: r,0<=y * c:=h2
  have hr:=val_sign hn c r fun y hy=>h2 y (List.mem_cons_of_mem _ hy)
  intro z
  have e:val n (c :: r) * c=c * c+n * (val n r * c):=by simp only [val,Int.add_mul,Int.mul_assoc]
  rw [z,Int.zero_mul] at e
  have p:=Int.mul_nonneg hn hr
  have q:0 < c * c:=by
   rcases Int.lt_or_gt_of_ne h1 with g | g
   ·exact Int.mul_pos_of_neg_of_neg g g
   ·exact Int.mul_pos g g
  omega
theorem clear_iff {ys:List Int} (h0:hd ys≠0):Clear ys↔(∀y∈ys,0<=y)∨(∀y∈ys,y<=0):=by
 have hm:hd ys∈ys:=by
  cases ys with
  | nil=>exact absurd rfl h0
  | cons c r=>exact List.mem_cons_self
 constructor
 ·intro h
  rcases Int.lt_or_gt_of_ne h0 with g | g
  ·refine .inr fun y hy=>?_
   have:=h.2 y hy
   by_cases z:y<=0
   ·exact z
   ·have:=Int.mul_neg_of_pos_of_neg (show 0 < y by omega) g
    omega
  ·refine .inl fun y hy=>?_
   have:=h.2 y hy
   by_cases z:0<=y
   ·exact z
   ·have:=Int.mul_neg_of_neg_of_pos (show y < 0 by omega) g
    omega
 ·rintro (h | h)
  ·exact⟨h0,fun y hy=>Int.mul_nonneg (h y hy) (h _ hm)⟩
  ·exact⟨h0,fun y hy=>Int.mul_nonneg_of_nonpos_of_nonpos (h y hy) (h _ hm)⟩
end My
namespace My
def sh (g:Nat->Int) (j:Nat):Int:=if j=0 then 0 else g (j - 1)
theorem sumN_first (n:Nat) (f:Nat->Int):sumN (n+1) f=f 0+sumN n fun j=>f (j+1):=by
 induction n with
 | zero=>simp [sumN]
 | succ n ih=>
  rw [show sumN (n+1+1) f=sumN (n+1) f+f (n+1) from rfl,ih]
  simp only [sumN];omega
def ev (p:Int) (f:Nat->Int):Nat->Nat->Int
 | 0,_=>0
 | n+1,s=>f s+p * ev p f n (s+1)
section
variable {p:Int} {K L:Nat->Int} {e t M:Nat} (he:1<=e) (hK:∀j,e+1<=j->K j=0) (kt:K e≠0) (hL:∀j,t+1<=j->L j=0) (lt:L t≠0) (hM:∀j,(pm L K j).natAbs<=M) (hp:(ev p K (e+1) 0).natAbs+M+1 < p.natAbs)
include he hK kt hL lt hM hp
end
end My
namespace My
end My
namespace My
def addP:List Int->List Int->List Int
 | [],ys=>ys
 | xs,[]=>xs
 | x :: xs,y :: ys=>(x+y) :: addP xs ys
theorem val_addP (n:Int):∀xs ys,val n (addP xs ys)=val n xs+val n ys
 | [],ys=>by simp [addP,val]
 | x :: xs,[]=>by simp [addP,val]
 | x :: xs,y :: ys=>by
  simp only [addP,val]
  rw [val_addP n xs ys,Int.mul_add];omega
theorem val_map (n c:Int):∀xs:List Int,val n (xs.map fun x=>c * x)=c * val n xs
 | []=>by simp [val]
 | x :: xs=>by
  simp only [List.map_cons,val]
  rw [val_map n c xs,Int.mul_add,← Int.mul_assoc n c,Int.mul_comm n c,Int.mul_assoc]
def mulP:List Int->List Int->List Int
 | [],_=>[]
 | c :: f,g=>addP (g.map fun x=>c * x) (0 :: mulP f g)
theorem val_mulP (n:Int):∀f g,val n (mulP f g)=val n f * val n g
 | [],g=>by simp [mulP,val]
 | c :: f,g=>by
  simp only [mulP]
  rw [val_addP,val_map]
  simp only [val]
  rw [val_mulP n f g,Int.add_mul,Int.mul_assoc];omega
theorem co_addP:∀(xs ys:List Int) (k:Nat),co (addP xs ys) k=co xs k+co ys k
 | [],ys,k=>by simp [addP,co_nil]
 | x :: xs,[],k=>by simp [addP,co_nil]
 | x :: xs,y :: ys,k=>by
  simp only [addP]
  rw [co_cons,co_cons,co_cons]
  by_cases h:k=0
  ·simp [h]
  ·rw [if_neg h,if_neg h,if_neg h,co_addP xs ys]
theorem co_mulP:∀(f g:List Int) (k:Nat),co (mulP f g) k=pm (co f) (co g) k
 | [],g,k=>by
  rw [show mulP [] g=[] from rfl,co_nil]
  exact (sumN_zero fun j _=>by rw [co_nil,Int.zero_mul]).symm
 | c :: f,g,k=>by
  simp only [mulP]
  rw [co_addP,co_cons]
  have e1:co (g.map fun x=>c * x) k=c * co g k:=by
   by_cases h:k < g.length
   ·rw [co_lt (by simpa using h),co_lt h,List.getElem_map]
   ·rw [co_ge (by simp;omega),co_ge (by omega),Int.mul_zero]
  rw [e1]
  unfold pm
  rw [sumN_first]
  have e2:co (c :: f) 0=c:=rfl
  rw [e2,Nat.sub_zero]
  by_cases h:k=0
  ·subst h
   rw [if_pos rfl];simp [sumN]
  ·rw [if_neg h,co_mulP f g (k - 1)]
   obtain⟨m,rfl⟩:∃m,k=m+1:=⟨k - 1,by omega⟩
   unfold pm
   rw [show m+1 - 1=m by omega]
   congr 1
   refine sumN_congr fun j hj=>?_
   rw [co_cons,if_neg (by omega),show j+1 - 1=j by omega,show m+1 - (j+1)=m - j by omega]
theorem val_pad (n:Int) (xs:List Int):∀k,val n (xs++List.replicate k 0)=val n xs:=by
 intro k
 induction xs with
 | nil=>
  induction k with
  | zero=>rfl
  | succ k ih=>rw [List.nil_append] at *;rw [List.replicate_succ];simp only [val];rw [ih];simp [val]
 | cons x xs ih=>simp only [List.cons_append,val];rw [ih]
theorem co_pad (xs:List Int) (k j:Nat):co (xs++List.replicate k 0) j=co xs j:=by
 by_cases h:j < xs.length
 ·unfold co;rw [List.getD_eq_getElem?_getD,List.getD_eq_getElem?_getD,List.getElem?_append_left h]
 ·rw [co_ge (xs:=xs) (by omega)]
  unfold co
  rw [List.getD_eq_getElem?_getD,List.getElem?_append_right (by omega),List.getElem?_replicate]
  split <;> rfl
theorem co_of_val {xs ys:List Int} (h:∀n,val n xs=val n ys) (k:Nat):co xs k=co ys k:=by
 have e:xs++List.replicate ys.length 0=ys++List.replicate xs.length 0:=val_ext (by simp;omega) fun n=>by rw [val_pad,val_pad,h]
 rw [← co_pad xs ys.length k,e,co_pad]
theorem val_of_co {xs ys:List Int} (h:∀k,co xs k=co ys k) (n:Int):val n xs=val n ys:=by
 have e:xs++List.replicate ys.length 0=ys++List.replicate xs.length 0:=co_ext (by simp;omega) fun k _=>by rw [co_pad,co_pad,h]
 rw [← val_pad n xs ys.length,e,val_pad]
end My
namespace My
end My
namespace My
open PySem PySem.Spec PyProof.Rows L2
seal L2.PE L2.PS L2.PSs L2.PA
local macro_rules | `(tactic| k_units)=>`(tactic| ((try dsimp only [a_fld,a_sfld,a_meth,a_make,a_maxD,a_inS,a_ipC,a_izip,a_tComp2,a_xfld,a_sxfld,a_binit,a_raiseI,a_fst2,a_tryAs,a_drop_nx,a_raise,a_try,a_fst,a_compIf,a_seq,a_next,a_brk,a_cnt,a_drop,a_ret,a_retN,a_if,a_asg,a_gname,a_gsub,a_gtup,a_gnil,a_gcons,a_aug,a_augS,a_ipI,a_var,a_c,a_op,a_un,a_rI,a_rI0,a_rU,a_eqI,a_neI,a_eqB,a_neB,a_tB,a_test,a_and,a_or,a_not,a_andV,a_orV,a_notV,a_ifE,a_chain,a_nil,a_cons,a_lst,a_tup,a_call,a_cb,a_bm0,a_bm,a_sl,a_nopart,a_part,a_tyI,a_for,a_comp,a_ilist,a_itup,a_irng1,a_irng2,a_irng3,a_cxK,a_irev,a_ienum,a_cat,a_rep,a_pop,a_clear,a_rslL,a_ixL,a_ixT,a_setL,a_app]);(try simp only [a_fld,a_sfld,a_meth,a_make,a_maxD,a_inS,a_ipC,a_izip,a_tComp2,a_xfld,a_sxfld,a_binit,a_raiseI,a_fst2,a_tryAs,a_drop_nx,a_raise,a_try,a_fst,a_compIf,a_seq,a_next,a_brk,a_cnt,a_drop,a_ret,a_retN,a_if,a_asg,a_gname,a_gsub,a_gtup,a_gnil,a_gcons,a_aug,a_augS,a_ipI,a_var,a_c,a_op,a_un,a_rI,a_rI0,a_rU,a_eqI,a_neI,a_eqB,a_neB,a_tB,a_test,a_and,a_or,a_not,a_andV,a_orV,a_notV,a_ifE,a_chain,a_nil,a_cons,a_lst,a_tup,a_call,a_cb,a_bm0,a_bm,a_sl,a_nopart,a_part,a_tyI,a_for,a_comp,a_ilist,a_itup,a_irng1,a_irng2,a_irng3,a_cxK,and_assoc,a_irev,a_ienum,a_cat,a_rep,a_pop,a_clear,a_rslL,a_ixL,a_ixT,a_setL,a_app,List.getElem?_cons_zero,List.getElem?_cons_succ,List.set_cons_zero,List.set_cons_succ,Option.some.injEq,V.int.injEq,V.bl.injEq,V.ref.injEq,V.ty.injEq,exists_eq_left',exists_eq_left,exists_and_left,decide_eq_true_eq,List.cons_append,List.nil_append,List.append_nil,List.cons.injEq,and_true,true_and,Bool.not_eq_true',decide_eq_false_iff_not,ite_true,ite_false,Bool.false_eq_true,if_true,if_false,List.length_cons,List.length_nil,L2.start,List.map_cons,List.map_nil,List.replicate_succ,List.replicate_zero])))
local macro_rules | `(tactic| k_typeOf)=>`(tactic| ((try dsimp only [a_fld,a_sfld,a_meth,a_make,a_maxD,a_inS,a_ipC,a_izip,a_tComp2,a_xfld,a_sxfld,a_binit,a_raiseI,a_fst2,a_tryAs,a_drop_nx,a_raise,a_try,a_fst,a_compIf,a_next,a_brk,a_cnt,a_drop,a_ret,a_retN,a_if,a_asg,a_gname,a_gsub,a_gtup,a_gnil,a_gcons,a_aug,a_augS,a_ipI,a_var,a_c,a_op,a_un,a_rI,a_rI0,a_rU,a_eqI,a_neI,a_eqB,a_neB,a_tB,a_test,a_and,a_or,a_not,a_andV,a_orV,a_notV,a_ifE,a_chain,a_nil,a_cons,a_lst,a_tup,a_call,a_cb,a_bm0,a_bm,a_sl,a_nopart,a_part,a_tyI,a_for,a_comp,a_ilist,a_itup,a_irng1,a_irng2,a_irng3,a_cxK,a_irev,a_ienum,a_cat,a_rep,a_pop,a_clear,a_rslL,a_ixL,a_ixT,a_setL,a_app]);(try simp only [a_fld,a_sfld,a_meth,a_make,a_maxD,a_inS,a_ipC,a_izip,a_tComp2,a_xfld,a_sxfld,a_binit,a_raiseI,a_fst2,a_tryAs,a_drop_nx,a_raise,a_try,a_fst,a_compIf,a_next,a_brk,a_cnt,a_drop,a_ret,a_retN,a_if,a_asg,a_gname,a_gsub,a_gtup,a_gnil,a_gcons,a_aug,a_augS,a_ipI,a_var,a_c,a_op,a_un,a_rI,a_rI0,a_rU,a_eqI,a_neI,a_eqB,a_neB,a_tB,a_test,a_and,a_or,a_not,a_andV,a_orV,a_notV,a_ifE,a_chain,a_nil,a_cons,a_lst,a_tup,a_call,a_cb,a_bm0,a_bm,a_sl,a_nopart,a_part,a_tyI,a_for,a_comp,a_ilist,a_itup,a_irng1,a_irng2,a_irng3,a_cxK,and_assoc,a_irev,a_ienum,a_cat,a_rep,a_pop,a_clear,a_rslL,a_ixL,a_ixT,a_setL,a_app,List.getElem?_cons_zero,List.getElem?_cons_succ,List.set_cons_zero,List.set_cons_succ,Option.some.injEq,V.int.injEq,V.bl.injEq,V.ref.injEq,V.ty.injEq,exists_eq_left',exists_eq_left,exists_and_left,decide_eq_true_eq,List.cons_append,List.nil_append,List.append_nil,List.cons.injEq,and_true,true_and,Bool.not_eq_true',decide_eq_false_iff_not,ite_true,ite_false,Bool.false_eq_true,if_true,if_false,List.length_cons,List.length_nil,L2.start,List.map_cons,List.map_nil,List.replicate_succ,List.replicate_zero])))
local macro_rules | `(tactic| w_on)=>`(tactic| exact⟨rfl,rfl,rfl,by decide +kernel,rfl,by decide +kernel,by decide +kernel⟩)
theorem sc_trimmed:FnScope ["numbers","size"] ["numbers"] (defScope s_trimmed):=by w_on
theorem sc_shifted:FnScope ["poly","by","answer","low","place"] ["poly","by"] (defScope s_shifted):=by w_on
theorem sc_poly_value:FnScope ["poly","n","answer","number"] ["poly","n"] (defScope s_poly_value):=by w_on
theorem sc_divisor:FnScope ["one","other","big","small","pair","rest"] ["one","other"] (defScope s_divisor):=by w_on
theorem sc_ratio:FnScope ["top","bottom","shared"] ["top","bottom"] (defScope s_ratio):=by w_on
theorem sc_clear:FnScope ["poly","m","moved"] ["poly","m"] (defScope s_clear):=by w_on
theorem sc_reach:FnScope ["poly","m"] ["poly"] (defScope s_reach):=by w_on
theorem sc_order_of:FnScope ["rule","poly"] ["rule"] (defScope s_order_of):=by w_on
theorem sc_need_of:FnScope ["rule","order"] ["rule"] (defScope s_need_of):=by w_on
theorem sc_weighted:FnScope ["weight","fraction","shared"] ["weight","fraction"] (defScope s_weighted):=by w_on
theorem sc_parted:FnScope ["fraction","number","shared"] ["fraction","number"] (defScope s_parted):=by w_on
theorem sc_total:FnScope ["fractions","live","bottom","fraction"] ["fractions"] (defScope s_total):=by w_on
theorem sc_rule_sum:FnScope ["rule","values","n","ahead"] ["rule","values","n"] (defScope s_rule_sum):=by w_on
theorem sc_keeps:FnScope ["rule","values","n","order"] ["rule","values","n"] (defScope s_keeps):=by w_on
theorem sc_check_first:FnScope ["rule","first","need","n"] ["rule","first"] (defScope s_check_first):=by w_on
theorem sc_next_value:FnScope ["rule","values","n"] ["rule","values"] (defScope s_next_value):=by w_on
theorem sc_carried_on:FnScope ["rule","first","many","values"] ["rule","first","many"] (defScope s_carried_on):=by w_on
theorem sc__law_cell_at:FnScope ["_law_script","_law_k"] ["_law_script","_law_k"] (defScope s__law_cell_at):=by w_on
theorem sc__law_number:FnScope ["_law_cell","_law_most"] ["_law_cell","_law_most"] (defScope s__law_number):=by w_on
theorem sc__law_cut:FnScope ["_law_numbers","_law_found"] ["_law_numbers"] (defScope s__law_cut):=by w_on
theorem sc__law_product:FnScope ["_law_one","_law_other","_law_found","_law_i","_law_j"] ["_law_one","_law_other"] (defScope s__law_product):=by w_on
theorem sc__law_value:FnScope ["_law_poly","_law_n","_law_found","_law_number_here"] ["_law_poly","_law_n"] (defScope s__law_value):=by w_on
theorem sc__law_divisor:FnScope ["_law_one","_law_other","_law_rest"] ["_law_one","_law_other"] (defScope s__law_divisor):=by w_on
theorem sc__law_lowest:FnScope ["_law_top","_law_bottom","_law_by"] ["_law_top","_law_bottom"] (defScope s__law_lowest):=by w_on
theorem sc__law_fraction:FnScope ["_law_cell","_law_number_here","_law_bottom"] ["_law_cell"] (defScope s__law_fraction):=by w_on
theorem sc__law_weighed:FnScope ["_law_rule_here","_law_values_here","_law_n","_law_top","_law_bottom","_law_i"] ["_law_rule_here","_law_values_here","_law_n"] (defScope s__law_weighed):=by w_on
theorem sc__law_last:FnScope ["_law_cell","_law_found"] ["_law_cell"] (defScope s__law_last):=by w_on
theorem sc__law_parts:FnScope ["_law_script","_law_far","_law_found","_law_i","_law_number_here","_law_many","_law_part"] ["_law_script"] (defScope s__law_parts):=by w_on
theorem sc__law_roots:FnScope ["_law_script","_law_cell","_law_most","_law_cells","_law_found"] ["_law_script"] (defScope s__law_roots):=by w_on
theorem sc__law_rule:FnScope ["_law_parts_here","_law_roots_here","_law_rule_here","_law_root"] ["_law_parts_here","_law_roots_here"] (defScope s__law_rule):=by w_on
theorem sc__law_need:FnScope ["_law_parts_here","_law_roots_here"] ["_law_parts_here","_law_roots_here"] (defScope s__law_need):=by w_on
theorem sc__law_values:FnScope ["_law_parts_here","_law_roots_here","_law_cells","_law_many","_law_values_here","_law_at","_law_n","_law_top","_law_bottom"] ["_law_parts_here","_law_roots_here","_law_cells","_law_many"] (defScope s__law_values):=by w_on
theorem sc__law_spoiled_first:FnScope ["_law_script","_law_first","_law_cell","_law_values_here","_law_k","_law_at"] ["_law_script","_law_first"] (defScope s__law_spoiled_first):=by w_on
theorem sc__law_spoiled_rule:FnScope ["_law_script","_law_rule_here","_law_cell","_law_found","_law_way"] ["_law_script","_law_rule_here"] (defScope s__law_spoiled_rule):=by w_on
theorem sc__law_due:FnScope ["_law_rule_here","_law_values_here","_law_great","_law_many","_law_n"] ["_law_rule_here","_law_values_here","_law_great","_law_many"] (defScope s__law_due):=by w_on
theorem sc__law_caught:FnScope ["_law_as_row","_law_rule_here","_law_values_here","_law_caught_here","e"] ["_law_as_row","_law_rule_here","_law_values_here"] (defScope s__law_caught):=by w_on
theorem sc__law_place:FnScope ["_law_rule_here","_law_values_here","_law_place_here","e"] ["_law_rule_here","_law_values_here"] (defScope s__law_place):=by w_on
theorem sc__law_is:FnScope ["_law_caught_here","_law_at","_law_told"] ["_law_caught_here","_law_at"] (defScope s__law_is):=by w_on
theorem sc__law_taken:FnScope ["_law_rule_here","_law_values_here","_law_row"] ["_law_rule_here","_law_values_here"] (defScope s__law_taken):=by w_on
theorem sc_law:FnScope ["_law_script","_law_parts_here","_law_roots_here","_law_good","_law_many","_law_spoiled","_law_handed","_law_at","_law_n","_law_place_here"] ["_law_script"] (defScope s_law):=by w_on
theorem sc_NotKept___init__:FnScope ["self","place"] ["self","place"] (defScope s_NotKept___init__):=by w_on
theorem sc_Row___init__:FnScope ["self","rule","first"] ["self","rule","first"] (defScope s_Row___init__):=by w_on
theorem sc_Row_at:FnScope ["self","n"] ["self","n"] (defScope s_Row_at):=by w_on
set_option genInjectivity false in
set_option genSizeOf false in
structure Tx (K:W.Frag) (mg:Str->Option Value) where
 a_trimmed:Addr
 fd_trimmed:FuncData
 F_trimmed:Fun K "trimmed" "trimmed" s_trimmed a_trimmed fd_trimmed
 m_trimmed:mg "trimmed" = some (.ref a_trimmed)
 b_trimmed:Binds K fd_trimmed ["numbers"] []
 a_shifted:Addr
 fd_shifted:FuncData
 F_shifted:Fun K "shifted" "shifted" s_shifted a_shifted fd_shifted
 m_shifted:mg "shifted" = some (.ref a_shifted)
 b_shifted:Binds K fd_shifted ["poly","by"] []
 a_poly_value:Addr
 fd_poly_value:FuncData
 F_poly_value:Fun K "poly_value" "poly_value" s_poly_value a_poly_value fd_poly_value
 m_poly_value:mg "poly_value" = some (.ref a_poly_value)
 b_poly_value:Binds K fd_poly_value ["poly","n"] []
 a_divisor:Addr
 fd_divisor:FuncData
 F_divisor:Fun K "divisor" "divisor" s_divisor a_divisor fd_divisor
 m_divisor:mg "divisor" = some (.ref a_divisor)
 b_divisor:Binds K fd_divisor ["one","other"] []
 a_ratio:Addr
 fd_ratio:FuncData
 F_ratio:Fun K "ratio" "ratio" s_ratio a_ratio fd_ratio
 m_ratio:mg "ratio" = some (.ref a_ratio)
 b_ratio:Binds K fd_ratio ["top","bottom"] []
 a_clear:Addr
 fd_clear:FuncData
 F_clear:Fun K "clear" "clear" s_clear a_clear fd_clear
 m_clear:mg "clear" = some (.ref a_clear)
 b_clear:Binds K fd_clear ["poly","m"] []
 a_reach:Addr
 fd_reach:FuncData
 F_reach:Fun K "reach" "reach" s_reach a_reach fd_reach
 m_reach:mg "reach" = some (.ref a_reach)
 b_reach:Binds K fd_reach ["poly"] []
 a_order_of:Addr
 fd_order_of:FuncData
 F_order_of:Fun K "order_of" "order_of" s_order_of a_order_of fd_order_of
 m_order_of:mg "order_of" = some (.ref a_order_of)
 b_order_of:Binds K fd_order_of ["rule"] []
 a_need_of:Addr
 fd_need_of:FuncData
 F_need_of:Fun K "need_of" "need_of" s_need_of a_need_of fd_need_of
 m_need_of:mg "need_of" = some (.ref a_need_of)
 b_need_of:Binds K fd_need_of ["rule"] []
 a_weighted:Addr
 fd_weighted:FuncData
 F_weighted:Fun K "weighted" "weighted" s_weighted a_weighted fd_weighted
 m_weighted:mg "weighted" = some (.ref a_weighted)
 b_weighted:Binds K fd_weighted ["weight","fraction"] []
 a_parted:Addr
 fd_parted:FuncData
 F_parted:Fun K "parted" "parted" s_parted a_parted fd_parted
 m_parted:mg "parted" = some (.ref a_parted)
 b_parted:Binds K fd_parted ["fraction","number"] []
 a_total:Addr
 fd_total:FuncData
 F_total:Fun K "total" "total" s_total a_total fd_total
 m_total:mg "total" = some (.ref a_total)
 b_total:Binds K fd_total ["fractions"] []
 a_rule_sum:Addr
 fd_rule_sum:FuncData
 F_rule_sum:Fun K "rule_sum" "rule_sum" s_rule_sum a_rule_sum fd_rule_sum
 m_rule_sum:mg "rule_sum" = some (.ref a_rule_sum)
 b_rule_sum:Binds K fd_rule_sum ["rule","values","n"] []
 a_keeps:Addr
 fd_keeps:FuncData
 F_keeps:Fun K "keeps" "keeps" s_keeps a_keeps fd_keeps
 m_keeps:mg "keeps" = some (.ref a_keeps)
 b_keeps:Binds K fd_keeps ["rule","values","n"] []
 a_check_first:Addr
 fd_check_first:FuncData
 F_check_first:Fun K "check_first" "check_first" s_check_first a_check_first fd_check_first
 m_check_first:mg "check_first" = some (.ref a_check_first)
 b_check_first:Binds K fd_check_first ["rule","first"] []
 a_next_value:Addr
 fd_next_value:FuncData
 F_next_value:Fun K "next_value" "next_value" s_next_value a_next_value fd_next_value
 m_next_value:mg "next_value" = some (.ref a_next_value)
 b_next_value:Binds K fd_next_value ["rule","values"] []
 a_carried_on:Addr
 fd_carried_on:FuncData
 F_carried_on:Fun K "carried_on" "carried_on" s_carried_on a_carried_on fd_carried_on
 m_carried_on:mg "carried_on" = some (.ref a_carried_on)
 b_carried_on:Binds K fd_carried_on ["rule","first","many"] []
 a__law_cell_at:Addr
 fd__law_cell_at:FuncData
 F__law_cell_at:Fun K "_law_cell_at" "_law_cell_at" s__law_cell_at a__law_cell_at fd__law_cell_at
 m__law_cell_at:mg "_law_cell_at" = some (.ref a__law_cell_at)
 b__law_cell_at:Binds K fd__law_cell_at ["_law_script","_law_k"] []
 a__law_number:Addr
 fd__law_number:FuncData
 F__law_number:Fun K "_law_number" "_law_number" s__law_number a__law_number fd__law_number
 m__law_number:mg "_law_number" = some (.ref a__law_number)
 b__law_number:Binds K fd__law_number ["_law_cell","_law_most"] []
 a__law_cut:Addr
 fd__law_cut:FuncData
 F__law_cut:Fun K "_law_cut" "_law_cut" s__law_cut a__law_cut fd__law_cut
 m__law_cut:mg "_law_cut" = some (.ref a__law_cut)
 b__law_cut:Binds K fd__law_cut ["_law_numbers"] []
 a__law_product:Addr
 fd__law_product:FuncData
 F__law_product:Fun K "_law_product" "_law_product" s__law_product a__law_product fd__law_product
 m__law_product:mg "_law_product" = some (.ref a__law_product)
 b__law_product:Binds K fd__law_product ["_law_one","_law_other"] []
 a__law_value:Addr
 fd__law_value:FuncData
 F__law_value:Fun K "_law_value" "_law_value" s__law_value a__law_value fd__law_value
 m__law_value:mg "_law_value" = some (.ref a__law_value)
 b__law_value:Binds K fd__law_value ["_law_poly","_law_n"] []
 a__law_divisor:Addr
 fd__law_divisor:FuncData
 F__law_divisor:Fun K "_law_divisor" "_law_divisor" s__law_divisor a__law_divisor fd__law_divisor
 m__law_divisor:mg "_law_divisor" = some (.ref a__law_divisor)
 b__law_divisor:Binds K fd__law_divisor ["_law_one","_law_other"] []
 a__law_lowest:Addr
 fd__law_lowest:FuncData
 F__law_lowest:Fun K "_law_lowest" "_law_lowest" s__law_lowest a__law_lowest fd__law_lowest
 m__law_lowest:mg "_law_lowest" = some (.ref a__law_lowest)
 b__law_lowest:Binds K fd__law_lowest ["_law_top","_law_bottom"] []
 a__law_fraction:Addr
 fd__law_fraction:FuncData
 F__law_fraction:Fun K "_law_fraction" "_law_fraction" s__law_fraction a__law_fraction fd__law_fraction
 m__law_fraction:mg "_law_fraction" = some (.ref a__law_fraction)
 b__law_fraction:Binds K fd__law_fraction ["_law_cell"] []
 a__law_weighed:Addr
 fd__law_weighed:FuncData
 F__law_weighed:Fun K "_law_weighed" "_law_weighed" s__law_weighed a__law_weighed fd__law_weighed
 m__law_weighed:mg "_law_weighed" = some (.ref a__law_weighed)
 b__law_weighed:Binds K fd__law_weighed ["_law_rule_here","_law_values_here","_law_n"] []
 a__law_last:Addr
 fd__law_last:FuncData
 F__law_last:Fun K "_law_last" "_law_last" s__law_last a__law_last fd__law_last
 m__law_last:mg "_law_last" = some (.ref a__law_last)
 b__law_last:Binds K fd__law_last ["_law_cell"] []
 a__law_parts:Addr
 fd__law_parts:FuncData
 F__law_parts:Fun K "_law_parts" "_law_parts" s__law_parts a__law_parts fd__law_parts
 m__law_parts:mg "_law_parts" = some (.ref a__law_parts)
 b__law_parts:Binds K fd__law_parts ["_law_script"] []
 a__law_roots:Addr
 fd__law_roots:FuncData
 F__law_roots:Fun K "_law_roots" "_law_roots" s__law_roots a__law_roots fd__law_roots
 m__law_roots:mg "_law_roots" = some (.ref a__law_roots)
 b__law_roots:Binds K fd__law_roots ["_law_script"] []
 a__law_rule:Addr
 fd__law_rule:FuncData
 F__law_rule:Fun K "_law_rule" "_law_rule" s__law_rule a__law_rule fd__law_rule
 m__law_rule:mg "_law_rule" = some (.ref a__law_rule)
 b__law_rule:Binds K fd__law_rule ["_law_parts_here","_law_roots_here"] []
 a__law_need:Addr
 fd__law_need:FuncData
 F__law_need:Fun K "_law_need" "_law_need" s__law_need a__law_need fd__law_need
 m__law_need:mg "_law_need" = some (.ref a__law_need)
 b__law_need:Binds K fd__law_need ["_law_parts_here","_law_roots_here"] []
 a__law_values:Addr
 fd__law_values:FuncData
 F__law_values:Fun K "_law_values" "_law_values" s__law_values a__law_values fd__law_values
 m__law_values:mg "_law_values" = some (.ref a__law_values)
 b__law_values:Binds K fd__law_values ["_law_parts_here","_law_roots_here","_law_cells","_law_many"] []
 a__law_spoiled_first:Addr
 fd__law_spoiled_first:FuncData
 F__law_spoiled_first:Fun K "_law_spoiled_first" "_law_spoiled_first" s__law_spoiled_first a__law_spoiled_first fd__law_spoiled_first
 m__law_spoiled_first:mg "_law_spoiled_first" = some (.ref a__law_spoiled_first)
 b__law_spoiled_first:Binds K fd__law_spoiled_first ["_law_script","_law_first"] []
 a__law_spoiled_rule:Addr
 fd__law_spoiled_rule:FuncData
 F__law_spoiled_rule:Fun K "_law_spoiled_rule" "_law_spoiled_rule" s__law_spoiled_rule a__law_spoiled_rule fd__law_spoiled_rule
 m__law_spoiled_rule:mg "_law_spoiled_rule" = some (.ref a__law_spoiled_rule)
 b__law_spoiled_rule:Binds K fd__law_spoiled_rule ["_law_script","_law_rule_here"] []
 a__law_due:Addr
 fd__law_due:FuncData
 F__law_due:Fun K "_law_due" "_law_due" s__law_due a__law_due fd__law_due
 m__law_due:mg "_law_due" = some (.ref a__law_due)
 b__law_due:Binds K fd__law_due ["_law_rule_here","_law_values_here","_law_great","_law_many"] []
 a__law_caught:Addr
 fd__law_caught:FuncData
 F__law_caught:Fun K "_law_caught" "_law_caught" s__law_caught a__law_caught fd__law_caught
 m__law_caught:mg "_law_caught" = some (.ref a__law_caught)
 b__law_caught:Binds K fd__law_caught ["_law_as_row","_law_rule_here","_law_values_here"] []
 a__law_place:Addr
 fd__law_place:FuncData
 F__law_place:Fun K "_law_place" "_law_place" s__law_place a__law_place fd__law_place
 m__law_place:mg "_law_place" = some (.ref a__law_place)
 b__law_place:Binds K fd__law_place ["_law_rule_here","_law_values_here"] []
 a__law_is:Addr
 fd__law_is:FuncData
 F__law_is:Fun K "_law_is" "_law_is" s__law_is a__law_is fd__law_is
 m__law_is:mg "_law_is" = some (.ref a__law_is)
 b__law_is:Binds K fd__law_is ["_law_caught_here","_law_at"] []
 a__law_taken:Addr
 fd__law_taken:FuncData
 F__law_taken:Fun K "_law_taken" "_law_taken" s__law_taken a__law_taken fd__law_taken
 m__law_taken:mg "_law_taken" = some (.ref a__law_taken)
 b__law_taken:Binds K fd__law_taken ["_law_rule_here","_law_values_here"] []
 a_law:Addr
 fd_law:FuncData
 F_law:Fun K "law" "law" s_law a_law fd_law
 m_law:mg "law" = some (.ref a_law)
 b_law:Binds K fd_law ["_law_script"] []
 a_NotKept___init__:Addr
 fd_NotKept___init__:FuncData
 F_NotKept___init__:Fun K "__init__" "NotKept.__init__" s_NotKept___init__ a_NotKept___init__ fd_NotKept___init__
 b_NotKept___init__:Binds K fd_NotKept___init__ ["self","place"] []
 a_Row___init__:Addr
 fd_Row___init__:FuncData
 F_Row___init__:Fun K "__init__" "Row.__init__" s_Row___init__ a_Row___init__ fd_Row___init__
 b_Row___init__:Binds K fd_Row___init__ ["self","rule","first"] []
 a_Row_at:Addr
 fd_Row_at:FuncData
 F_Row_at:Fun K "at" "Row.at" s_Row_at a_Row_at fd_Row_at
 b_Row_at:Binds K fd_Row_at ["self","n"] []
 a_Row_told:Addr
 fd_Row_told:FuncData
 F_Row_told:Fun K "told" "Row.told" s_Row_told a_Row_told fd_Row_told
 b_Row_told:Binds K fd_Row_told ["self"] []
 c_NoNumber:Addr
 mc_NoNumber:mg "NoNumber" = some (.ref c_NoNumber)
 xc_NoNumber:PySem.W.excIn K c_NoNumber bmV "ValueError.__new__" = true
 c_TooGreat:Addr
 mc_TooGreat:mg "TooGreat" = some (.ref c_TooGreat)
 xc_TooGreat:PySem.W.excIn K c_TooGreat bmV "ValueError.__new__" = true
 c_NoRule:Addr
 mc_NoRule:mg "NoRule" = some (.ref c_NoRule)
 xc_NoRule:PySem.W.excIn K c_NoRule bmV "ValueError.__new__" = true
 c_NoPlace:Addr
 mc_NoPlace:mg "NoPlace" = some (.ref c_NoPlace)
 xc_NoPlace:PySem.W.excIn K c_NoPlace bmV "ValueError.__new__" = true
 c_TooFew:Addr
 mc_TooFew:mg "TooFew" = some (.ref c_TooFew)
 xc_TooFew:PySem.W.excIn K c_TooFew bmV "ValueError.__new__" = true
 c_SumError:Addr
 mc_SumError:mg "SumError" = some (.ref c_SumError)
 c_NoTerm:Addr
 mc_NoTerm:mg "NoTerm" = some (.ref c_NoTerm)
 c_NoEnds:Addr
 mc_NoEnds:mg "NoEnds" = some (.ref c_NoEnds)
 c_NoLine:Addr
 mc_NoLine:mg "NoLine" = some (.ref c_NoLine)
 c_NoName:Addr
 mc_NoName:mg "NoName" = some (.ref c_NoName)
 c_Row:Addr
 mc_Row:mg "Row" = some (.ref c_Row)
 cl_Row:Cls K c_Row
 mk_Row:Mk K c_Row a_Row___init__
 me_Row_at:Meth K c_Row "at" a_Row_at
 me_Row_told:Meth K c_Row "told" a_Row_told
 na_Row_known:NoAttr K c_Row "known"
 na_Row_rule:NoAttr K c_Row "rule"
 c_NotKept:Addr
 mc_NotKept:mg "NotKept" = some (.ref c_NotKept)
 xi_NotKept:XI K c_NotKept a_NotKept___init__
 xf_NotKept_place:XF K c_NotKept "place"
 xb_SumError:XC K c_SumError
 kc_NoRule_SumError:Catches K c_NoRule c_SumError
 kc_TooGreat_SumError:Catches K c_TooGreat c_SumError
 kc_TooFew_SumError:Catches K c_TooFew c_SumError
 kc_NotKept_SumError:Catches K c_NotKept c_SumError
 kc_NotKept_NotKept:Catches K c_NotKept c_NotKept
 ec_NoRule:ExCls K c_NoRule
 ec_TooGreat:ExCls K c_TooGreat
 ec_TooFew:ExCls K c_TooFew
 ec_NotKept:ExCls K c_NotKept
 ki_NoRule_NoRule:PySem.W.kitOne K (.ref c_NoRule) (.ref c_NoRule)=some true
 ki_NoRule_TooGreat:PySem.W.kitOne K (.ref c_NoRule) (.ref c_TooGreat)=some false
 ki_NoRule_TooFew:PySem.W.kitOne K (.ref c_NoRule) (.ref c_TooFew)=some false
 ki_NoRule_NotKept:PySem.W.kitOne K (.ref c_NoRule) (.ref c_NotKept)=some false
 ki_NoRule_NoNumber:PySem.W.kitOne K (.ref c_NoRule) (.ref c_NoNumber)=some false
 ki_NoRule_NoPlace:PySem.W.kitOne K (.ref c_NoRule) (.ref c_NoPlace)=some false
 ki_NoRule_NoTerm:PySem.W.kitOne K (.ref c_NoRule) (.ref c_NoTerm)=some false
 ki_NoRule_NoEnds:PySem.W.kitOne K (.ref c_NoRule) (.ref c_NoEnds)=some false
 ki_NoRule_NoLine:PySem.W.kitOne K (.ref c_NoRule) (.ref c_NoLine)=some false
 ki_NoRule_NoName:PySem.W.kitOne K (.ref c_NoRule) (.ref c_NoName)=some false
 ki_TooGreat_NoRule:PySem.W.kitOne K (.ref c_TooGreat) (.ref c_NoRule)=some false
 ki_TooGreat_TooGreat:PySem.W.kitOne K (.ref c_TooGreat) (.ref c_TooGreat)=some true
 ki_TooGreat_TooFew:PySem.W.kitOne K (.ref c_TooGreat) (.ref c_TooFew)=some false
 ki_TooGreat_NotKept:PySem.W.kitOne K (.ref c_TooGreat) (.ref c_NotKept)=some false
 ki_TooGreat_NoNumber:PySem.W.kitOne K (.ref c_TooGreat) (.ref c_NoNumber)=some false
 ki_TooGreat_NoPlace:PySem.W.kitOne K (.ref c_TooGreat) (.ref c_NoPlace)=some false
 ki_TooGreat_NoTerm:PySem.W.kitOne K (.ref c_TooGreat) (.ref c_NoTerm)=some false
 ki_TooGreat_NoEnds:PySem.W.kitOne K (.ref c_TooGreat) (.ref c_NoEnds)=some false
 ki_TooGreat_NoLine:PySem.W.kitOne K (.ref c_TooGreat) (.ref c_NoLine)=some false
 ki_TooGreat_NoName:PySem.W.kitOne K (.ref c_TooGreat) (.ref c_NoName)=some false
 ki_TooFew_NoRule:PySem.W.kitOne K (.ref c_TooFew) (.ref c_NoRule)=some false
 ki_TooFew_TooGreat:PySem.W.kitOne K (.ref c_TooFew) (.ref c_TooGreat)=some false
 ki_TooFew_TooFew:PySem.W.kitOne K (.ref c_TooFew) (.ref c_TooFew)=some true
 ki_TooFew_NotKept:PySem.W.kitOne K (.ref c_TooFew) (.ref c_NotKept)=some false
 ki_TooFew_NoNumber:PySem.W.kitOne K (.ref c_TooFew) (.ref c_NoNumber)=some false
 ki_TooFew_NoPlace:PySem.W.kitOne K (.ref c_TooFew) (.ref c_NoPlace)=some false
 ki_TooFew_NoTerm:PySem.W.kitOne K (.ref c_TooFew) (.ref c_NoTerm)=some false
 ki_TooFew_NoEnds:PySem.W.kitOne K (.ref c_TooFew) (.ref c_NoEnds)=some false
 ki_TooFew_NoLine:PySem.W.kitOne K (.ref c_TooFew) (.ref c_NoLine)=some false
 ki_TooFew_NoName:PySem.W.kitOne K (.ref c_TooFew) (.ref c_NoName)=some false
 ki_NotKept_NoRule:PySem.W.kitOne K (.ref c_NotKept) (.ref c_NoRule)=some false
 ki_NotKept_TooGreat:PySem.W.kitOne K (.ref c_NotKept) (.ref c_TooGreat)=some false
 ki_NotKept_TooFew:PySem.W.kitOne K (.ref c_NotKept) (.ref c_TooFew)=some false
 ki_NotKept_NotKept:PySem.W.kitOne K (.ref c_NotKept) (.ref c_NotKept)=some true
 ki_NotKept_NoNumber:PySem.W.kitOne K (.ref c_NotKept) (.ref c_NoNumber)=some false
 ki_NotKept_NoPlace:PySem.W.kitOne K (.ref c_NotKept) (.ref c_NoPlace)=some false
 ki_NotKept_NoTerm:PySem.W.kitOne K (.ref c_NotKept) (.ref c_NoTerm)=some false
 ki_NotKept_NoEnds:PySem.W.kitOne K (.ref c_NotKept) (.ref c_NoEnds)=some false
 ki_NotKept_NoLine:PySem.W.kitOne K (.ref c_NotKept) (.ref c_NoLine)=some false
 ki_NotKept_NoName:PySem.W.kitOne K (.ref c_NotKept) (.ref c_NoName)=some false
 ki_NoRule_ValueError:PySem.W.kitOne K (.ref c_NoRule) (.type "ValueError")=some true
 ki_TooGreat_ValueError:PySem.W.kitOne K (.ref c_TooGreat) (.type "ValueError")=some true
 ki_TooFew_ValueError:PySem.W.kitOne K (.ref c_TooFew) (.type "ValueError")=some true
 ki_NotKept_ValueError:PySem.W.kitOne K (.ref c_NotKept) (.type "ValueError")=some true
 ki_NoneType_NoRule:PySem.W.kitOne K (.type "NoneType") (.ref c_NoRule)=some false
 ki_NoneType_TooGreat:PySem.W.kitOne K (.type "NoneType") (.ref c_TooGreat)=some false
 ki_NoneType_TooFew:PySem.W.kitOne K (.type "NoneType") (.ref c_TooFew)=some false
 ki_NoneType_NotKept:PySem.W.kitOne K (.type "NoneType") (.ref c_NotKept)=some false
 ki_NoneType_NoNumber:PySem.W.kitOne K (.type "NoneType") (.ref c_NoNumber)=some false
 ki_NoneType_NoPlace:PySem.W.kitOne K (.type "NoneType") (.ref c_NoPlace)=some false
 ki_NoneType_NoTerm:PySem.W.kitOne K (.type "NoneType") (.ref c_NoTerm)=some false
 ki_NoneType_NoEnds:PySem.W.kitOne K (.type "NoneType") (.ref c_NoEnds)=some false
 ki_NoneType_NoLine:PySem.W.kitOne K (.type "NoneType") (.ref c_NoLine)=some false
 ki_NoneType_NoName:PySem.W.kitOne K (.type "NoneType") (.ref c_NoName)=some false
 z_len:mg "len" = none
 z_list:mg "list" = none
 z_range:mg "range" = none
 z_reversed:mg "reversed" = none
 z_abs:mg "abs" = none
 z_min:mg "min" = none
 z_max:mg "max" = none
 z_sum:mg "sum" = none
 z_zip:mg "zip" = none
 z_isinstance:mg "isinstance" = none
 z_ValueError:mg "ValueError" = none
 z_bool:mg "bool" = none
 g_LONG:{ t:Tok // mg "LONG" = some (.int 4000 t) }
 g_FARTHEST:{ t:Tok // mg "FARTHEST" = some (.int 60 t) }
 g_FARTHEST_PLACE:{ t:Tok // mg "FARTHEST_PLACE" = some (.int 400 t) }
theorem abs_nat (a:Int):(if a < 0 then -a else a)=((a.natAbs:Nat):Int):=by split <;> omega
def spGcd:Sp:=fun vs H Q _=>∃a b:Int,vs=[.int a,.int b]∧b.natAbs < 2 ^ 4000∧Q (.int (Nat.gcd a.natAbs b.natAbs:Nat)) H
theorem bits_le {b:Int} (h:b.natAbs < 2 ^ 4000):¬(4000:Int) < ((Builtin.Int.intBits ((b.natAbs:Nat):Int):Nat):Int):=by
 have:=intBits_le_of (i:=((b.natAbs:Nat):Int)) (k:=4000) (by rw [Int.natAbs_natCast];exact h)
 omega
theorem ok_divisor {P:Program} {w:World} {K:W.Frag} {mg:Str->Option Value} {base:Heap} (T:Tx K mg):FnOk P w K mg base CX0 1 T.a_divisor T.fd_divisor ["one","other"] spGcd:=by
 refine T.F_divisor.ok sc_divisor (fun vs H Q E h=>?_) (fun cdv A outer s H vs Q E hr h=>?_)
 ·obtain⟨a,b,rfl,_⟩:=h
  rfl
 obtain⟨a,b,rfl,hb,q⟩:=h
 refine⟨_,((pss_cons (ps_set (i:=2) sc_divisor.nd rfl (Or.inl rfl) (pe_callB call_abs rfl T.z_abs bt_abs (pa_cons (pv 0) pa_nil)))
  (pss_cons (ps_set (i:=3) sc_divisor.nd rfl (Or.inl rfl) (pe_callB call_abs rfl T.z_abs bt_abs (pa_cons (pv 1) pa_nil)))
  (pss_cons (ps_while PassesOwn.never (pt_cmpR op_gt (pe_bm0 PySem.F.plainAttrs_int PySem.F.slot_int_bit_length PySem.F.type_int_bit_length mt_bitlen (pv 3)) (pe_glob (v:=.int 4000) rfl T.g_LONG.2 ⟨_,rfl⟩) (nomark _)) pss_never)
  (pss_cons (ps_while PassesOwn.never (pt_cmpR op_ne (pv 3) pe_int (nomark _)) (pss_cons (ps_set (i:=5) sc_divisor.nd rfl (Or.inl rfl) (pe_op op_mod (pv 2) (pv 3)))
  (pss_cons (ps_set (i:=2) sc_divisor.nd rfl (Or.inl rfl) (pv 3))
  (pss_one (ps_set (i:=3) sc_divisor.nd rfl (Or.inl rfl) (pv 5))))))
  (pss_one (ps_ret (pv 2)))))))),?_⟩
 (iterate 3 (k_units;(try simp only [abs_nat]));k_units)
 refine while_of (fun m σ H'=>σ=[some (V.int a),some (V.int b),some (V.int a.natAbs),some (V.int b.natAbs),none,none]∧H'=H) 0 ⟨rfl,rfl⟩ ?_
 rintro m σ H' ⟨rfl,rfl⟩
 k_units
 rw [if_neg (bits_le hb)]
 refine while_of (fun m σ H1=>∃(x y:Nat) (r:Option V),σ=[some (V.int a),some (V.int b),some (.int x),some (.int y),none,r]∧H1=H'∧m=y∧Nat.gcd x y=Nat.gcd a.natAbs b.natAbs) b.natAbs ⟨a.natAbs,b.natAbs,none,rfl,rfl,rfl,rfl⟩ ?_
 rintro m σ H1 ⟨x,y,r,rfl,rfl,rfl,hg⟩
 k_units
 refine ite2 (fun h=>?_) (fun h=>?_)
 ·refine⟨fun σ' H2=>σ'=[some (V.int a),some (V.int b),some (V.int m),some (V.int ((x:Int) % (m:Int))),none,some (V.int ((x:Int) % (m:Int)))]∧H2=H1,?_,by omega,rfl,rfl⟩
  rintro σ' H2 ⟨rfl,rfl⟩
  refine⟨x % m,Nat.mod_lt _ (by omega),m,x % m,_,by rw [← Int.natCast_emod],rfl,rfl,?_⟩
  rw [Nat.gcd_comm m,← Nat.gcd_rec,Nat.gcd_comm];exact hg
 ·have h0:m=0:=by omega
  subst h0
  rw [Nat.gcd_zero_right] at hg
  rw [hg];exact q
def spGcdL:Sp:=fun vs H Q _=>∃a b:Int,vs=[.int a,.int b]∧Q (.int (Nat.gcd a.natAbs b.natAbs:Nat)) H
theorem ok__law_divisor {P:Program} {w:World} {K:W.Frag} {mg:Str->Option Value} {base:Heap} (T:Tx K mg):FnOk P w K mg base CX0 1 T.a__law_divisor T.fd__law_divisor ["_law_one","_law_other"] spGcdL:=by
 refine T.F__law_divisor.ok sc__law_divisor (fun vs H Q E h=>?_) (fun cdv A outer s H vs Q E hr h=>?_)
 ·obtain⟨a,b,rfl,_⟩:=h
  rfl
 obtain⟨a,b,rfl,q⟩:=h
 refine⟨_,((pss_cons (ps_set (i:=0) sc__law_divisor.nd rfl (Or.inl rfl) (pe_callB call_abs rfl T.z_abs bt_abs (pa_cons (pv 0) pa_nil)))
  (pss_cons (ps_set (i:=1) sc__law_divisor.nd rfl (Or.inl rfl) (pe_callB call_abs rfl T.z_abs bt_abs (pa_cons (pv 1) pa_nil)))
  (pss_cons (ps_while PassesOwn.never (pt_cmpR op_ne (pv 0) pe_int (nomark _)) (pss_cons (ps_set (i:=2) sc__law_divisor.nd rfl (Or.inl rfl) (pe_op op_mod (pv 1) (pv 0)))
  (pss_cons (ps_set (i:=1) sc__law_divisor.nd rfl (Or.inl rfl) (pv 0))
  (pss_one (ps_set (i:=0) sc__law_divisor.nd rfl (Or.inl rfl) (pv 2))))))
  (pss_one (ps_ret (pv 1))))))),?_⟩
 (iterate 3 (k_units;(try simp only [abs_nat]));k_units)
 refine while_of (fun m σ H'=>∃(x y:Nat) (r:Option V),σ=[some (.int x),some (.int y),r]∧H'=H∧m=x∧Nat.gcd x y=Nat.gcd a.natAbs b.natAbs) a.natAbs ⟨a.natAbs,b.natAbs,none,rfl,rfl,rfl,rfl⟩ ?_
 rintro m σ H' ⟨x,y,r,rfl,rfl,rfl,hg⟩
 dsimp only [a_seq]
 k_typeOf
 refine ite2 (fun h=>?_) (fun h=>?_)
 ·skip
  dsimp only [a_seq]
  k_typeOf
  refine⟨fun σ' H1=>σ'=[some (V.int ((y:Int) % (m:Int))),some (V.int m),some (V.int ((y:Int) % (m:Int)))]∧H1=H',?_,by omega,rfl,rfl⟩
  rintro σ' H1 ⟨rfl,rfl⟩
  refine⟨y % m,Nat.mod_lt _ (by omega),y % m,m,_,by rw [← Int.natCast_emod],rfl,rfl,?_⟩
  rw [← Nat.gcd_rec];exact hg
 ·have h0:m=0:=by omega
  subst h0
  rw [Nat.gcd_zero_left] at hg
  rw [hg];exact q
def spTrim (K:W.Frag):Sp:=fun vs H Q _=>∃(a:Addr) (xs:List Int),vs=[.ref a]∧SqL K H a (xs.map V.int)∧xs.length<=1000∧newL H Q ((trim xs).map V.int)
theorem ok_trimmed {P:Program} {w:World} {K:W.Frag} {mg:Str->Option Value} {base:Heap} (T:Tx K mg):FnOk P w K mg base CX0 1 T.a_trimmed T.fd_trimmed ["numbers"] (spTrim K):=by
 refine T.F_trimmed.ok sc_trimmed (fun vs H Q E h=>?_) (fun cdv A outer s H vs Q E hr h=>?_)
 ·obtain⟨a,xs,rfl,_⟩:=h
  rfl
 obtain⟨a,xs,rfl,hS,hl,q⟩:=h
 refine⟨_,((pss_cons (ps_set (i:=1) sc_trimmed.nd rfl (Or.inl rfl) (pe_callB call_len_seq rfl T.z_len bt_len (pa_cons (pv 0) pa_nil)))
  (pss_cons (ps_while PassesOwn.never (PW.pt (pw_and (pt_cmpR op_gt (pv 1) pe_int (nomark _)) (pw_and1 (pt_cmpR op_eq (pe_ix ix_list (pv 0) (pe_op op_sub (pv 1) pe_int) (fun _ _=>rfl)) pe_int (nomark _))))) (pss_one (ps_aug (i:=1) sc_trimmed.nd rfl (Or.inl rfl) pe_int ip_sub)))
  (pss_one (ps_ret (pe_callTy call_list_of rfl T.z_list bt_list (pa_cons (pe_slice sl_list (pv 0) po_none (po_some (pv 1))) pa_nil))))))),?_⟩
 dsimp only [a_seq]
 k_typeOf
 refine⟨_,.inl hS,?_⟩
 rw [List.length_map]
 dsimp only [a_seq]
 k_typeOf
 refine while_of (fun m σ H'=>m<=xs.length∧σ=[some (.ref a),some (.int (m:Int))]∧H'=H∧∀k,m<=k->co xs k=0) xs.length ⟨Nat.le_refl _,rfl,rfl,fun k hk=>co_ge hk⟩ ?_
 have fin:∀n:Nat,n<=xs.length->trim xs=xs.take n->∃x,SqL K H a x∧∀p,H p=none->∃x1,(SqL K (upd H p (.lst (cutV x none (some (n:Int))))) p x1∨SqT K (upd H p (.lst (cutV x none (some (n:Int))))) p x1)∧
   ∀l,upd H p (.lst (cutV x none (some (n:Int)))) l=none->Q (.ref l) (upd (upd H p (.lst (cutV x none (some (n:Int))))) l (.lst x1)):=by
  intro n hn e
  refine⟨_,hS,fun p hp=>⟨_,.inl (SqL.of upd_same),fun r hr'=>?_⟩⟩
  rw [cutV_map] at hr' ⊢
  have e2:((xs.drop (HT.sIx xs.length 0 none)).take (HT.sIx xs.length xs.length (some ((n:Nat):Int)) - HT.sIx xs.length 0 none))=trim xs:=by
   rw [HT.sIx_nat,HT.sIx_none,List.drop_zero,e,Nat.min_eq_left hn];rfl
  rw [e2] at hr' ⊢
  exact q r _ ((same_upd hp _).trans (same_upd hr' _)) ((same_upd hp _).free hr') upd_same
 rintro m σ H' ⟨hm,rfl,rfl,hz⟩
 cases m with
 | zero=>
  k_units
  rw [if_neg (by simp)]
  exact fin 0 (Nat.zero_le _) (trim_take (Nat.zero_le _) hz (.inl rfl))
 | succ m=>
  have e1:((m+1:Nat):Int) - 1=(m:Int):=by omega
  (iterate 3 (k_units;(try simp only [e1]));k_units)
  rw [if_pos (by omega)]
  refine⟨_,hS,_,at_int (by omega),?_⟩
  k_units
  refine ite2 (fun h=>?_) (fun h=>?_)
  ·refine⟨fun σ' H1=>σ'=[some (V.ref a),some (V.int (m:Int))]∧H1=H',?_,rfl,rfl⟩
   rintro σ' H1 ⟨rfl,rfl⟩
   refine⟨m,Nat.lt_succ_self _,by omega,rfl,rfl,fun k hk=>?_⟩
   by_cases e:k=m
   ·rw [e,co_lt (by omega)];exact h
   ·exact hz k (by omega)
  ·exact fin (m+1) hm (trim_take hm hz (.inr (by show co xs m≠0;rw [co_lt (by omega)];exact h)))
def spShift (K:W.Frag):Sp:=fun vs H Q _=>∃(a:Addr) (xs:List Int) (b:Int) (k l:Nat),vs=[.ref a,.int b]∧SqL K H a (xs.map V.int)∧xs.length<=64∧(∀x∈xs,Bd k x)∧Bd l b∧k+l * 5000<=60000000∧newL H Q ((trim (shiftL b xs)).map V.int)
theorem ok_shifted {P:Program} {w:World} {K:W.Frag} {mg:Str->Option Value} {base:Heap} (T:Tx K mg):FnOk P w K mg base CX0 2 T.a_shifted T.fd_shifted ["poly","by"] (spShift K):=by
 refine T.F_shifted.ok sc_shifted (fun vs H Q E h=>?_) (fun cdv A outer s H vs Q E hr h=>?_)
 ·obtain⟨a,xs,b,k,l,rfl,_⟩:=h
  rfl
 obtain⟨a,xs,b,k,l,rfl,hS,hl,hk,hb,hf,q⟩:=h
 refine⟨_,((pss_cons (ps_set (i:=2) sc_shifted.nd rfl (Or.inl rfl) (pe_callTy call_list_of rfl T.z_list bt_list (pa_cons (pv 0) pa_nil)))
  (pss_cons (ps_for PassesOwn.never rfl (pi_range1 rfl T.z_range (pa_cons (pe_op op_sub (pe_callB call_len_seq rfl T.z_len bt_len (pa_cons (pv 2) pa_nil)) pe_int) pa_nil)) (pg_name (i:=3) sc_shifted.nd rfl (Or.inl rfl)) (pss_one (ps_for PassesOwn.never rfl (pi_range3 rfl T.z_range (pa_cons (pe_op op_sub (pe_callB call_len_seq rfl T.z_len bt_len (pa_cons (pv 2) pa_nil)) pe_int) (pa_cons (pe_op op_sub (pv 3) pe_int) (pa_cons (pe_un un_neg pe_int) pa_nil)))) (pg_name (i:=4) sc_shifted.nd rfl (Or.inl rfl)) (pss_one (ps_augS (pv 2) (pv 4) get_list (pe_op op_mulZ (pv 1) (pe_ix ix_list (pv 2) (pe_op op_add (pv 4) pe_int) (fun _ _=>rfl))) ip_add set_list)))))
  (pss_one (ps_ret (pe_call (FnOk.mono (ok_trimmed T) (by decide)) hr rfl T.m_trimmed T.F_trimmed.kp T.b_trimmed .nil pass0 (pa_cons (pv 2) pa_nil))))))),?_⟩
 dsimp only [a_seq]
 k_typeOf
 refine⟨_,.inl hS,fun L hL=>?_⟩
 dsimp only [a_seq]
 k_typeOf
 refine⟨_,.inl (SqL.of upd_same),by rw [List.length_map];omega,by rw [List.length_map];omega,?_⟩
 have e0:(((xs.map V.int).length:Nat):Int) - 1=(xs.length:Int) - 1:=by rw [List.length_map]
 have e1:((xs.length:Int) - 1).toNat=xs.length - 1:=by omega
 rw [e0,e1]
 clear e0 e1
 obtain⟨Pv,hPv⟩:∃Pv:Nat->L2.St->Hp->Prop,∀i σ H',Pv i σ H'↔∃r1 r2 pre zs,σ=[some (V.ref a),some (V.int b),some (V.ref L),r1,r2]∧H'=upd H L (.lst ((pre++zs).map V.int))∧pre.length=i∧pre.length+zs.length=xs.length∧
  shiftL b xs=pre++shiftN b zs.length zs∧∀y∈pre++zs,Bd (k+(l+1) * (i * 64)) y:=⟨_,fun _ _ _=>Iff.rfl⟩
 refine lp_range Pv ((hPv _ _ _).mpr ⟨none,none,[],xs,rfl,rfl,rfl,by simp,rfl,fun y hy=>(hk y hy).mono (by omega)⟩) ?_ ?_
 ·intro low σ H' hlow hp
  obtain⟨r1,r2,pre,zs,rfl,rfl,hpre,hlen,hsh,hbd⟩:=(hPv _ _ _).mp hp
  have el:(0:Int)+(low:Int)=(low:Int):=Int.zero_add _
  (iterate 3 (k_units;(try simp only [el]));k_units)
  clear el
  obtain⟨m,hm⟩:∃m,zs.length=m+1:=⟨zs.length - 1,by omega⟩
  have hy:((pre++zs).map V.int).length=xs.length:=by rw [List.length_map,List.length_append];exact hlen
  refine⟨_,.inl (SqL.of upd_same),by decide,by decide,?_⟩
  rw [hy]
  clear hy
  refine⟨small_down (by omega) (by omega) (by omega) (by omega),m,size_down (by omega),?_⟩
  obtain⟨Pw,hPw⟩:∃Pw:Nat->L2.St->Hp->Prop,∀t σ H',Pw t σ H'↔∃r,σ=[some (V.ref a),some (V.int b),some (V.ref L),some (V.int (low:Int)),r]∧H'=upd H L (.lst ((pre++mixed b zs (m - t)).map V.int))∧
   ∀y∈pre++mixed b zs (m - t),Bd (k+(l+1) * (low * 64+t)) y:=⟨_,fun _ _ _=>Iff.rfl⟩
  have hz:zs≠[]:=by intro z;rw [z] at hm;simp at hm
  refine lp_ranges Pw ((hPw _ _ _).mpr ⟨r2,rfl,?_,?_⟩) ?_ ?_
  ·rw [show m - 0=zs.length - 1 by omega,mixed_last b zs hz]
  ·rw [show m - 0=zs.length - 1 by omega,mixed_last b zs hz];exact hbd
  ·intro t σ H' ht hp
   obtain⟨r,rfl,rfl,hbt⟩:=(hPw _ _ _).mp hp
   obtain⟨j,hj⟩:∃j,m - t=j+1:=⟨m - t - 1,by omega⟩
   have ej:m - (t+1)=j:=by omega
   have ep:(xs.length:Int) - 2+(t:Int) * -1=((low+j:Nat):Int):=by omega
   have ep1:(xs.length:Int) - 2+(t:Int) * -1+1=((low+j+1:Nat):Int):=by omega
   rw [hj] at hbt ⊢
   have hjz:j < zs.length:=by omega
   have g0:(pre++mixed b zs (j+1))[low+j]?=some zs[j]:=by
    rw [List.getElem?_append_right (by omega),show low+j - pre.length=j by omega];exact mixed_at b zs j hjz
   have g1:(pre++mixed b zs (j+1))[low+j+1]?=some (hd (synth b (zs.drop (j+1)))):=by
    rw [List.getElem?_append_right (by omega),show low+j+1 - pre.length=j+1 by omega];exact mixed_next b zs j (by omega)
   have gs:(pre++mixed b zs (j+1)).set (low+j) (zs[j]+b * hd (synth b (zs.drop (j+1))))=pre++mixed b zs j:=by
    rw [List.set_append_right _ _ (by omega),show low+j - pre.length=j by omega,mixed_set b zs j hjz]
   have b0:=hbt _ (List.mem_of_getElem? g0)
   have b1:=hbt _ (List.mem_of_getElem? g1)
   (iterate 3 (k_units;(try simp only [ep,ep1]));k_units)
   clear ep ep1
   have t64:(l+1) * (low * 64+t)<=l * 4097+4097:=by have:=Nat.mul_le_mul_left (l+1) (by omega:low * 64+t<=4097);omega
   refine⟨_,SqL.of upd_same,_,at_some g0,_,SqL.of upd_same,_,at_some g1,_,rfl,hb.fits b1 (by omega),_,rfl,_,upd_same,low+j,ixN_nat (by rw [List.length_map,List.length_append,mixed_len];omega),(hPw _ _ _).mpr ⟨_,rfl,?_,?_⟩⟩
   ·rw [upd_upd,map_set,gs,ej]
   ·rw [ej,← gs]
    intro y hy
    have e64:(l+1) * (low * 64+(t+1))=(l+1) * (low * 64+t)+(l+1):=by rw [← Nat.add_assoc,Nat.mul_succ]
    rcases List.mem_or_eq_of_mem_set hy with z | z
    ·exact (hbt y z).mono (by omega)
    ·rw [z]
     exact ((b0.mono (by omega:k+(l+1) * (low * 64+t)<=l+(k+(l+1) * (low * 64+t)))).add (hb.mul b1)).mono (by omega)
  ·intro σ H' hp
   obtain⟨r,rfl,rfl,hbt⟩:=(hPw _ _ _).mp hp
   rw [Nat.sub_self,mixed_zero] at hbt ⊢
   obtain⟨s1,s2,s3⟩:=shift_turn b m zs hm
   rw [hm,s1] at hsh
   refine (hPv _ _ _).mpr ⟨_,_,pre++[hd (synth b zs)],(synth b zs).tail,rfl,?_,by rw [List.length_append,hpre];rfl,by rw [List.length_append,s3,List.length_singleton];omega,by rw [hsh,s3,List.append_assoc];rfl,?_⟩
   ·rw [List.append_assoc,List.singleton_append,← s2]
   ·rw [List.append_assoc,List.singleton_append,← s2]
    have e64:(l+1) * ((low+1) * 64)=(l+1) * (low * 64+64):=by congr 1;omega
    have:=Nat.mul_le_mul_left (l+1) (by omega:low * 64+m<=low * 64+64)
    exact fun y hy=>(hbt y hy).mono (by omega)
 ·intro σ H' hp
  obtain⟨r1,r2,pre,zs,rfl,rfl,hpre,hlen,hsh,hbd⟩:=(hPv _ _ _).mp hp
  have fin:pre++zs=shiftL b xs:=by
   rw [hsh]
   by_cases h0:xs.length=0
   ·have:zs.length=0:=by omega
    rw [List.eq_nil_of_length_eq_zero this];rfl
   ·have h1:zs.length=1:=by omega
    obtain⟨c,rfl⟩:=List.length_eq_one_iff.mp h1
    rw [show [c].length=1 from rfl,shift_one]
  rw [fin]
  k_units
  refine⟨_,_,rfl,SqL.of upd_same,by rw [shift_len];omega,fun r H' hs hn he=>?_⟩
  have s1:=same_upd hL (.lst ((shiftL b xs).map V.int))
  exact q r H' (s1.trans hs) (s1.free hn) he
def spValue (K:W.Frag):Sp:=fun vs H Q _=>∃(a:Addr) (xs:List Int) (n:Int) (k l:Nat),vs=[.ref a,.int n]∧SqL K H a (xs.map V.int)∧xs.length<=64∧(∀x∈xs,Bd k x)∧Bd l n∧k+l * 100<=60000000∧Q (.int (val n xs)) H
theorem val_drop (n:Int) (xs:List Int) (i:Nat) (h:i < xs.length):val n (xs.drop (xs.length - 1 - i))=val n (xs.drop (xs.length - i)) * n+xs[xs.length - 1 - i]:=by
 rw [List.drop_eq_getElem_cons (by omega),show xs.length - 1 - i+1=xs.length - i by omega]
 simp only [val]
 rw [Int.mul_comm];omega
theorem ok_poly_value {P:Program} {w:World} {K:W.Frag} {mg:Str->Option Value} {base:Heap} (T:Tx K mg):FnOk P w K mg base CX0 1 T.a_poly_value T.fd_poly_value ["poly","n"] (spValue K):=by
 refine T.F_poly_value.ok sc_poly_value (fun vs H Q E h=>?_) (fun cdv A outer s H vs Q E hr h=>?_)
 ·obtain⟨a,xs,n,k,l,rfl,_⟩:=h
  rfl
 obtain⟨a,xs,n,k,l,rfl,hS,hl,hk,hb,hf,q⟩:=h
 refine⟨_,((pss_cons (ps_set (i:=2) sc_poly_value.nd rfl (Or.inl rfl) pe_int)
  (pss_cons (ps_for PassesOwn.never rfl (pi_rev rfl T.z_reversed (pa_cons (pv 0) pa_nil)) (pg_name (i:=3) sc_poly_value.nd rfl (Or.inl rfl)) (pss_one (ps_set (i:=2) sc_poly_value.nd rfl (Or.inl rfl) (pe_op op_add (pe_op op_mulZ (pv 2) (pv 1)) (pv 3)))))
  (pss_one (ps_ret (pv 2)))))),?_⟩
 k_units
 refine⟨_,hS,?_⟩
 obtain⟨Pv,hPv⟩:∃Pv:Nat->L2.St->Hp->Prop,∀i σ H',Pv i σ H'↔(∃r,σ=[some (V.ref a),some (V.int n),some (V.int (val n (xs.drop (xs.length - i)))),r])∧Bd (k+(l+1) * i) (val n (xs.drop (xs.length - i)))∧H'=H:=⟨_,fun _ _ _=>Iff.rfl⟩
 refine lp_rev Pv ((hPv _ _ _).mpr ⟨⟨none,by simp [val]⟩,by simp [val,Bd.zero],rfl⟩) (fun i σ H' _ z=>by rw [((hPv i σ H').mp z).2.2];exact hS) ?_ ?_
 ·intro i v σ H' hi hv hp
  obtain⟨⟨r,rfl⟩,hbd,rfl⟩:=(hPv _ _ _).mp hp
  rw [List.length_map] at hi hv
  rw [List.getElem?_map,List.getElem?_eq_getElem (by omega)] at hv
  obtain rfl:V.int xs[xs.length - 1 - i]=v:=Option.some.inj hv
  k_units
  have hx:Bd k xs[xs.length - 1 - i]:=hk _ (List.getElem_mem _)
  have e:xs.length - (i+1)=xs.length - 1 - i:=by omega
  have i64:(l+1) * i<=l * 64+64:=by have:=Nat.mul_le_mul_left (l+1) (by omega:i<=64);omega
  refine⟨hbd.fits hb (by omega),(hPv _ _ _).mpr ⟨⟨_,by rw [e,val_drop n xs i hi]⟩,?_,rfl⟩⟩
  rw [e,val_drop n xs i hi]
  refine ((hbd.mul hb).add (hx.mono (by omega:k<=k+(l+1) * i+l))).mono ?_
  rw [Nat.mul_succ];omega
 ·intro σ H' hp
  obtain⟨⟨r,rfl⟩,_,rfl⟩:=(hPv _ _ _).mp hp
  k_units
  rw [List.length_map,Nat.sub_self,List.drop_zero]
  exact q
def mkT (H:Hp) (Q:VK) (x y:Int):Prop:=∀p,H p=none->Q (.ref p) (upd H p (.tup [.int x,.int y]))
def spRatio (c:Addr):Sp:=fun vs H Q E=>∃t b:Int,vs=[.int t,.int b]∧Bd 3000 b∧
 ((b≠0∧∀x y:Int,1<=y->Nat.gcd x.natAbs y.natAbs=1->x * b=t * y->x.natAbs<=t.natAbs->y.natAbs<=b.natAbs->mkT H Q x y)∨(b=0∧E (.ref c) none H))
theorem ok_ratio {P:Program} {w:World} {K:W.Frag} {mg:Str->Option Value} {base:Heap} (T:Tx K mg):FnOk P w K mg base (CXE P w) 2 T.a_ratio T.fd_ratio ["top","bottom"] (spRatio T.c_NoNumber):=by
 refine T.F_ratio.okE sc_ratio (fun vs H Q E h=>?_) (fun cdv A outer s H vs Q E hr h=>?_)
 ·obtain⟨t,b,rfl,_⟩:=h
  rfl
 obtain⟨t,b,rfl,hb,q⟩:=h
 refine⟨_,((pss_cons (ps_if (PT.nox (pt_cmpR op_eq (pv 1) pe_int (nomark _))) (pss_one (ps_raise rfl throwE rfl T.mc_NoNumber T.xc_NoNumber (pa_cons pe_str pa_nil))) pss_nil)
  (pss_cons (PS.nox (ps_set (i:=2) sc_ratio.nd rfl (Or.inl rfl) (pe_call (FnOk.mono (ok_divisor T) (by decide)) hr rfl T.m_divisor T.F_divisor.kp T.b_divisor .nil pass0 (pa_cons (pv 0) (pa_cons (pv 1) pa_nil)))))
  (pss_cons (PS.nox (ps_if (pt_cmpR op_lt (pv 1) pe_int (nomark _)) (pss_one (ps_set (i:=2) sc_ratio.nd rfl (Or.inl rfl) (pe_un un_neg (pv 2)))) pss_nil))
  (pss_one (PS.nox (ps_ret (pe_tup (pa_cons (pe_op op_fdivB (pv 0) (pv 2)) (pa_cons (pe_op op_fdivB (pv 1) (pv 2)) pa_nil)))))))))),?_⟩
 k_units
 refine ite2 (fun h0=>?_) (fun h0=>?_)
 ·rcases q with ⟨hn,_⟩ | ⟨_,q⟩
  ·exact absurd h0 hn
  ·exact⟨by decide,q⟩
 ·obtain⟨hn,q⟩:=q.resolve_right fun z=>h0 z.1
  refine⟨t,b,rfl,Nat.lt_of_lt_of_le hb (Nat.pow_le_pow_right (by decide) (by decide)),?_⟩
  have small:∀s:Int,s.natAbs=Nat.gcd t.natAbs b.natAbs->s.natAbs < 2 ^ 9000:=fun s e=>by
   rw [e]
   exact Nat.lt_of_le_of_lt (Nat.gcd_le_right _ (by omega)) (Nat.lt_of_lt_of_le hb (Nat.pow_le_pow_right (by decide) (by decide)))
  have fin:∀s:Int,(s=if b < 0 then -((Nat.gcd t.natAbs b.natAbs:Nat):Int) else ((Nat.gcd t.natAbs b.natAbs:Nat):Int))->(s≠0∧s.natAbs < 2 ^ 9000)∧(s≠0∧s.natAbs < 2 ^ 9000)∧mkT H Q (t.fdiv s) (b.fdiv s):=fun s e=>by
   obtain⟨g1,g2,g3,g4,g5,g6⟩:=gcd_split hn e
   refine⟨⟨g1,small s g2⟩,⟨g1,small s g2⟩,q _ _ g5 g6 ?_ (fdiv_le g1 g3) (fdiv_le g1 g4)⟩
   rw [Int.mul_comm,g4,Int.mul_assoc,← g4]
   generalize b.fdiv s=y at *
   generalize t.fdiv s=x at *
   rw [g3,Int.mul_assoc,Int.mul_comm x y]
  refine ite2 (fun hneg=>?_) (fun hneg=>?_)
  ·obtain⟨f1,f2,f3⟩:=fin _ (by rw [if_pos hneg])
   exact⟨_,rfl,f1.1,f1.2,f2.1,f2.2,by decide,f3⟩
  ·obtain⟨f1,f2,f3⟩:=fin _ (by rw [if_neg hneg])
   exact⟨_,rfl,f1.1,f1.2,_,rfl,f2.1,f2.2,by decide,f3⟩
def clr (m:Int) (xs:List Int):Bool:=decide (hd (shiftL m xs)≠0∧∀y∈shiftL m xs,0<=y * hd (shiftL m xs))
theorem clr_iff (m:Int) (xs:List Int):clr m xs=true↔Clear (shiftL m xs):=by unfold clr Clear;exact decide_eq_true_iff
theorem hd_co (ys:List Int):hd ys=co ys 0:=by cases ys <;> rfl
theorem trim_in {ys:List Int} {y:Int} (h:y∈ys):y∈trim ys∨y=0:=by
 obtain⟨k,hk,rfl⟩:=List.mem_iff_getElem.mp h
 rw [← co_lt hk,← trim_co]
 by_cases z:k < (trim ys).length
 ·rw [co_lt z];exact .inl (List.getElem_mem z)
 ·exact .inr (co_ge (by omega))
theorem in_trim {ys:List Int} {y:Int} (h:y∈trim ys):y∈ys:=by
 unfold trim at h
 exact List.mem_reverse.mp ((List.dropWhile_sublist _).subset (List.mem_reverse.mp h))
theorem clr_trim {m:Int} {xs:List Int} (h0:co (trim (shiftL m xs)) 0≠0):clr m xs=true↔(∀y∈trim (shiftL m xs),0<=y)∨(∀y∈trim (shiftL m xs),y<=0):=by
 rw [trim_co,← hd_co] at h0
 rw [clr_iff,clear_iff h0]
 constructor
 ·rintro (h | h)
  ·exact .inl fun y hy=>h y (in_trim hy)
  ·exact .inr fun y hy=>h y (in_trim hy)
 ·rintro (h | h)
  ·refine .inl fun y hy=>(trim_in hy).elim (h y) fun z=>by omega
  ·refine .inr fun y hy=>(trim_in hy).elim (h y) fun z=>by omega
theorem clr_no {m:Int} {xs:List Int} (h:co (shiftL m xs) 0=0):clr m xs=false:=by
 rw [← hd_co] at h
 refine Bool.eq_false_iff.mpr fun z=>((clr_iff m xs).mp z).1 h
def spClear (K:W.Frag):Sp:=fun vs H Q _=>∃(a:Addr) (xs:List Int) (m:Int) (k l:Nat),vs=[.ref a,.int m]∧SqL K H a (xs.map V.int)∧xs.length<=64∧(∀x∈xs,Bd k x)∧Bd l m∧k+l * 5000<=60000000∧∀H',Same H H'->Q (.bl (clr m xs)) H'
theorem ok_clear {P:Program} {w:World} {K:W.Frag} {mg:Str->Option Value} {base:Heap} (T:Tx K mg):FnOk P w K mg base CX0 3 T.a_clear T.fd_clear ["poly","m"] (spClear K):=by
 refine T.F_clear.ok sc_clear (fun vs H Q E h=>?_) (fun cdv A outer s H vs Q E hr h=>?_)
 ·obtain⟨a,xs,m,k,l,rfl,_⟩:=h
  rfl
 obtain⟨a,xs,m,k,l,rfl,hS,hl,hk,hb,hf,q⟩:=h
 refine⟨_,((pss_cons (ps_set (i:=2) sc_clear.nd rfl (Or.inl rfl) (pe_call (FnOk.mono (ok_shifted T) (by decide)) hr rfl T.m_shifted T.F_shifted.kp T.b_shifted .nil pass0 (pa_cons (pv 0) (pa_cons (pv 1) pa_nil))))
  (pss_cons (ps_if (PW.pt (pw_or (pt_cmpR op_eq (pe_callB call_len_seq rfl T.z_len bt_len (pa_cons (pv 2) pa_nil)) pe_int (nomark _)) (pw_or1 (pt_cmpR op_eq (pe_ix ix_list (pv 2) pe_int (fun _ _=>rfl)) pe_int (nomark _))))) (pss_one (ps_ret pe_bl)) pss_nil)
  (pss_one (ps_ret (pe_or (pe_cmpR op_ge (pe_callB (call_minL rfl) rfl T.z_min bt_min (pa_cons (pv 2) pa_nil)) pe_int (nomark _)) (pe_one (pe_cmpR op_le (pe_callB (call_maxL rfl) rfl T.z_max bt_max (pa_cons (pv 2) pa_nil)) pe_int (nomark _))))))))),?_⟩
 k_units
 refine⟨a,xs,m,k,l,rfl,hS,hl,hk,hb,hf,fun R H1 s1 nR eR=>?_⟩
 refine⟨R,rfl,_,.inl (SqL.of eR),?_⟩
 have q:=q _ s1
 obtain⟨ys,hys⟩:∃ys,trim (shiftL m xs)=ys:=⟨_,rfl⟩
 rw [hys] at eR ⊢
 rw [List.length_map]
 refine ite2 (fun h=>?_) (fun h=>?_)
 ·have tz:ys=[]:=List.eq_nil_of_length_eq_zero (by omega)
  have z:clr m xs=false:=clr_no (by rw [← trim_co,hys,tz];rfl)
  rw [z] at q
  exact q
 have hlt:0 < ys.length:=by omega
 have hne:ys≠[]:=List.length_pos_iff.mp hlt
 refine⟨R,rfl,_,SqL.of eR,_,(show atI (ys.map V.int) 0=some (V.int ys[0]) from at_int hlt),?_⟩
 k_units
 refine ite2 (fun h0=>?_) (fun h0=>?_)
 ·have z:clr m xs=false:=clr_no (by rw [← trim_co,hys,co_lt hlt];exact h0)
  rw [z] at q
  exact q
 have ct:=clr_trim (m:=m) (xs:=xs) (by rw [hys,co_lt hlt];exact h0)
 rw [hys] at ct
 refine⟨_,SqL.of eR,hne,fun M hM1 hM2=>ite2 (fun h1=>?_) (fun h1=>⟨_,SqL.of eR,hne,fun M2 hN1 hN2=>?_⟩)⟩
 ·rw [ct.mpr (.inl fun y hy=>Int.le_trans h1 (hM2 y hy))] at q
  exact q
 ·have e:decide (M2<=0)=clr m xs:=by
   rw [Bool.eq_iff_iff,ct,decide_eq_true_iff]
   constructor
   ·intro h2
    exact .inr fun y hy=>Int.le_trans (hN2 y hy) h2
   ·rintro (h2 | h2)
    ·exact absurd (h2 M hM1) h1
    ·exact h2 M2 hN1
  rw [e]
  exact q
def spReach (K:W.Frag) (c d:Addr):Sp:=fun vs H Q E=>∃(a:Addr) (xs:List Int),vs=[.ref a]∧SqL K H a (xs.map V.int)∧xs.length<=64∧(∀x∈xs,Bd 200 x)∧
 ((xs=[]∧E (.ref c) none H)∨(xs≠[]∧((∃m:Nat,m<=60∧clr m xs=true∧(∀j:Nat,j < m->clr j xs=false)∧∀H',Same H H'->Q (.int m) H')∨((∀j:Nat,j<=60->clr j xs=false)∧∀H',Same H H'->E (.ref d) none H'))))
theorem ok_reach {P:Program} {w:World} {K:W.Frag} {mg:Str->Option Value} {base:Heap} (T:Tx K mg):FnOk P w K mg base (CXE P w) 4 T.a_reach T.fd_reach ["poly"] (spReach K T.c_NoNumber T.c_TooGreat):=by
 refine T.F_reach.okE sc_reach (fun vs H Q E h=>?_) (fun cdv A outer s H vs Q E hr h=>?_)
 ·obtain⟨a,xs,rfl,_⟩:=h
  rfl
 obtain⟨a,xs,rfl,hS,hl,hk,q⟩:=h
 refine⟨_,((pss_cons (ps_if (PT.nox (pt_cmpR op_eq (pe_callB call_len_seq rfl T.z_len bt_len (pa_cons (pv 0) pa_nil)) pe_int (nomark _))) (pss_one (ps_raise rfl throwE rfl T.mc_NoNumber T.xc_NoNumber (pa_cons pe_str pa_nil))) pss_nil)
  (pss_cons (PS.nox (ps_for PassesOwn.never rfl (pi_range1 rfl T.z_range (pa_cons (pe_op op_add (pe_glob (v:=.int 60) rfl T.g_FARTHEST.2 ⟨_,rfl⟩) pe_int) pa_nil)) (pg_name (i:=1) sc_reach.nd rfl (Or.inl rfl)) (pss_one (ps_if (pt_val (pe_call (FnOk.mono (ok_clear T) (by decide)) hr rfl T.m_clear T.F_clear.kp T.b_clear .nil pass0 (pa_cons (pv 0) (pa_cons (pv 1) pa_nil)))) (pss_one (ps_ret (pv 1))) pss_nil))))
  (pss_one (ps_raise rfl throwE rfl T.mc_TooGreat T.xc_TooGreat (pa_cons (pe_fst (pe_glob (v:=.int 60) rfl T.g_FARTHEST.2 ⟨_,rfl⟩)) pa_nil)))))),?_⟩
 k_units
 refine⟨_,.inl hS,?_⟩
 rw [List.length_map]
 refine ite2 (fun h=>?_) (fun h=>?_)
 ·rcases q with ⟨_,q⟩ | ⟨hn,_⟩
  ·exact⟨by decide,q⟩
  ·exact absurd (List.eq_nil_of_length_eq_zero (by omega)) hn
 have hne:xs≠[]:=by intro z;rw [z] at h;simp at h
 have q:=(q.resolve_left fun z=>hne z.1).2
 refine⟨by decide,by decide,?_⟩
 have e61:((60:Int)+1).toNat=61:=rfl
 rw [e61]
 obtain⟨Pv,hPv⟩:∃Pv:Nat->L2.St->Hp->Prop,∀i σ H',Pv i σ H'↔∃r:Option V,σ=[some (V.ref a),r]∧Same H H'∧∀j:Nat,j < i->clr j xs=false:=⟨_,fun _ _ _=>Iff.rfl⟩
 refine lp_range Pv ((hPv _ _ _).mpr ⟨_,rfl,Same.refl _,fun j hj=>by omega⟩) ?_ ?_
 ·intro i σ H' hi hp
  obtain⟨r,rfl,sP,hj⟩:=(hPv _ _ _).mp hp
  have e1:(0:Int)+(i:Int)=(i:Int):=Int.zero_add _
  (iterate 3 (k_units;(try simp only [e1]));k_units)
  refine⟨a,xs,i,200,10,rfl,sP.seq hS,hl,hk,Bd.of_lt (m:=61) (by omega) (by decide),by decide,fun H2 s2=>⟨_,rfl,ite2 (fun hc=>?_) (fun hc=>(hPv _ _ _).mpr ⟨_,rfl,sP.trans s2,fun j hj'=>?_⟩)⟩⟩
  ·rcases q with ⟨m,m60,hm,hm2,q⟩ | ⟨hno,_⟩
   ·have e:m=i:=by
     rcases Nat.lt_trichotomy m i with z | z | z
     ·rw [hj m z] at hm;cases hm
     ·exact z
     ·rw [hm2 i z] at hc;cases hc
    subst e
    exact q _ (sP.trans s2)
   ·rw [hno i (by omega)] at hc;cases hc
  ·by_cases z:j < i
   ·exact hj j z
   ·rw [show j=i by omega];exact Bool.eq_false_iff.mpr hc
 ·intro σ H' hp
  obtain⟨r,rfl,sP,hj⟩:=(hPv _ _ _).mp hp
  k_units
  rcases q with ⟨m,m60,hm,hm2,q⟩ | ⟨_,q⟩
  ·rw [hj m (by omega)] at hm;cases hm
  exact⟨by decide +kernel,by decide +kernel,by decide +kernel,by decide,q _ sP⟩
theorem call_list_ofK {X:Cx} {K:W.Frag} (hK:X.K=K):CallR X (.type "list") (fun xs H Q=>∃p ys,xs=[.ref p]∧(SqL K H p ys∨SqT K H p ys)∧∀l,H l=none->Q (.ref l) (upd H l (.lst ys))):=by subst hK;exact call_list_of
theorem ix_tupK {X:Cx} {K:W.Frag} (hK:X.K=K):IxR X (rIxT K):=by subst hK;exact ix_tup
structure LL (K:W.Frag) (H:Hp) (as:List Addr) (ps:List (List Int)):Prop where
 len:as.length=ps.length
 get:∀(i:Nat) (a:Addr) (p:List Int),as[i]?=some a->ps[i]?=some p->SqL K H a (p.map V.int)
theorem LL.same {K:W.Frag} {H H':Hp} {as:List Addr} {ps:List (List Int)} (h:LL K H as ps) (s:Same H H'):LL K H' as ps:=⟨h.len,fun i a p h1 h2=>s.seq (h.get i a p h1 h2)⟩
theorem LL.nth {K:W.Frag} {H:Hp} {as:List Addr} {ps:List (List Int)} (h:LL K H as ps) {i:Nat} {v:V} (hv:(as.map V.ref)[i]?=some v):∃a p,v=.ref a∧as[i]?=some a∧ps[i]?=some p∧SqL K H a (p.map V.int):=by
 rw [List.getElem?_map] at hv
 obtain⟨a,ha,rfl⟩:=Option.map_eq_some_iff.mp hv
 have hi:=(List.getElem?_eq_some_iff.mp ha).1
 have hp:i < ps.length:=by rw [← h.len];exact hi
 exact⟨a,ps[i],rfl,ha,List.getElem?_eq_getElem hp,h.get i a _ ha (List.getElem?_eq_getElem hp)⟩
theorem LL.lastAt {K:W.Frag} {H:Hp} {as:List Addr} {ps:List (List Int)} (h:LL K H as ps) (hne:ps≠[]):∃a p,atI (as.map V.ref) (-1)=some (.ref a)∧as.getLast?=some a∧ps.getLast?=some p∧SqL K H a (p.map V.int):=by
 have hl:ps.length≠0:=fun z=>hne (List.eq_nil_of_length_eq_zero z)
 have ha:as.length - 1 < as.length:=by have:=h.len;omega
 have hp:as.length - 1 < ps.length:=by have:=h.len;omega
 refine⟨as[as.length - 1],ps[as.length - 1],?_,?_,?_,h.get (as.length - 1) _ _ (List.getElem?_eq_getElem ha) (List.getElem?_eq_getElem hp)⟩
 ·have e:=ixN_neg (n:=(as.map V.ref).length) (i:=1) (by decide) (by rw [List.length_map];omega)
  have e1:(-((1:Nat):Int))=-1:=rfl
  rw [e1] at e
  unfold atI
  rw [e]
  show (as.map V.ref)[(as.map V.ref).length - 1]?=_
  rw [List.getElem?_map,List.length_map,List.getElem?_eq_getElem ha];rfl
 ·rw [List.getLast?_eq_getElem?,List.getElem?_eq_getElem ha]
 ·rw [List.getLast?_eq_getElem?,← h.len,List.getElem?_eq_getElem hp]
def dL (p:List Int):PyData:=.list (p.map PyData.int)
theorem dvs_ll {K:W.Frag} {H:Hp}:∀(as:List Addr) (ps:List (List Int)),LL K H as ps->DVs K H (as.map V.ref) (ps.map dL)
 | [],[],_=>.nil
 | a :: as,p :: ps,h=>.cons (DV.ints (h.get 0 a p rfl rfl)) (dvs_ll as ps ⟨by have:=h.len;simpa using this,fun i b r h1 h2=>h.get (i+1) b r (by simpa using h1) (by simpa using h2)⟩)
 | [],_ :: _,h=>by have:=h.len;simp at this
 | _ :: _,[],h=>by have:=h.len;simp at this
theorem dv_ll {K:W.Frag} {H:Hp} {R:Addr} {as:List Addr} {ps:List (List Int)} (hR:SqL K H R (as.map V.ref)) (h:LL K H as ps):DV K H (.ref R) (.list (ps.map dL)):=.lst hR (dvs_ll as ps h)
theorem lay_ll (ps:List (List Int)):PyData.canLay0 (.list (ps.map dL))=true:=by
 have h:∀ps:List (List Int),PyData.canLayAll0 (ps.map dL)=true:=fun ps=>by
  induction ps with
  | nil=>rfl
  | cons p ps ih=>simp [PyData.canLayAll0,PyData.canLay0,lay_ints,dL,ih]
 simp [PyData.canLay0,h]
theorem dep_ll (ps:List (List Int)):PyData.depth (.list (ps.map dL))<=64:=by
 have h:∀ps:List (List Int),PyData.depthAll (ps.map dL)<=1:=fun ps=>by
  induction ps with
  | nil=>exact Nat.zero_le _
  | cons p ps ih=>simp [PyData.depthAll,PyData.depth,depth_ints,dL];omega
 have:=h ps
 simp [PyData.depth];omega
theorem eqv_llD (ps qs:List (List Int)):PyData.eqv (.list (ps.map dL)) (.list (qs.map dL))=decide (ps=qs):=by
 have h:∀ps qs:List (List Int),PyData.eqvAll (ps.map dL) (qs.map dL)=decide (ps=qs):=fun ps=>by
  induction ps with
  | nil=>intro qs;cases qs <;> simp [PyData.eqvAll]
  | cons p ps ih=>
   intro qs
   cases qs with
   | nil=>simp [PyData.eqvAll]
   | cons q qs=>
    have e:PyData.eqv (dL p) (dL q)=decide (p=q):=by simp [dL,PyData.eqv,eqvAll_ints]
    simp only [List.map_cons,PyData.eqvAll,e,ih qs,List.cons.injEq,Bool.decide_and]
 simp [PyData.eqv,h]
theorem eqvAll_ll (ps:List (List Int)):PyData.eqvAll (ps.map dL) (ps.map dL)=true:=by
 induction ps with
 | nil=>rfl
 | cons p ps ih=>simp [PyData.eqvAll,PyData.eqv,eqvAll_ints,dL,ih]
theorem layAll_ll (ps:List (List Int)):PyData.canLayAll0 (ps.map dL)=true:=by
 induction ps with
 | nil=>rfl
 | cons p ps ih=>simp [PyData.canLayAll0,PyData.canLay0,lay_ints,dL,ih]
theorem depAll_ll (ps:List (List Int)):PyData.depthAll (ps.map dL)<=1:=by
 induction ps with
 | nil=>exact Nat.zero_le _
 | cons p ps ih=>simp [PyData.depthAll,PyData.depth,depth_ints,dL];omega
def IsRule (ps:List (List Int)):Prop:=ps≠[]∧(∀p,ps.getLast?=some p->p≠[])∧∀p∈ps,Nml p
def spOrder (K:W.Frag) (c:Addr):Sp:=fun vs H Q E=>∃(R:Addr) (as:List Addr) (ps:List (List Int)),vs=[.ref R]∧SqL K H R (as.map V.ref)∧LL K H as ps∧ps.length<=1000∧
 ((IsRule ps∧Q (.int ((ps.length:Int) - 1)) H)∨(¬IsRule ps∧E (.ref c) none H))
theorem ok_order_of {P:Program} {w:World} {K:W.Frag} {mg:Str->Option Value} {base:Heap} (T:Tx K mg):FnOk P w K mg base (CXE P w) 1 T.a_order_of T.fd_order_of ["rule"] (spOrder K T.c_NoRule):=by
 refine T.F_order_of.okE sc_order_of (fun vs H Q E h=>?_) (fun cdv A outer s H vs Q E hr h=>?_)
 ·obtain⟨R,as,ps,rfl,_⟩:=h
  rfl
 obtain⟨R,as,ps,rfl,hR,hL,hl,q⟩:=h
 refine⟨_,((pss_cons (ps_if (PT.nox (PW.pt (pw_or (pt_cmpR op_eq (pe_callB call_len_seq rfl T.z_len bt_len (pa_cons (pv 0) pa_nil)) pe_int (nomark _)) (pw_or1 (pt_cmpR op_eq (pe_callB call_len_seq rfl T.z_len bt_len (pa_cons (pe_ix ix_list (pv 0) (pe_un un_neg pe_int) (fun _ _=>rfl)) pa_nil)) pe_int (nomark _)))))) (pss_one (ps_raise rfl throwE rfl T.mc_NoRule T.xc_NoRule (pa_cons pe_str pa_nil))) pss_nil)
  (pss_cons (ps_for PassesOwn.leaving rfl (pi_list (pv 0)) (pg_name (i:=1) sc_order_of.nd rfl (Or.inl rfl)) (pss_one (ps_if (PT.nox (PW.pt (pw_and (pt_cmpR op_gt (pe_callB call_len_seq rfl T.z_len bt_len (pa_cons (pv 1) pa_nil)) pe_int (nomark _)) (pw_and1 (pt_cmpR op_eq (pe_ix ix_list (pv 1) (pe_un un_neg pe_int) (fun _ _=>rfl)) pe_int (nomark _)))))) (pss_one (ps_raise rfl throwE rfl T.mc_NoRule T.xc_NoRule (pa_cons pe_str pa_nil))) pss_nil)))
  (pss_one (PS.nox (ps_ret (pe_op op_sub (pe_callB call_len_seq rfl T.z_len bt_len (pa_cons (pv 0) pa_nil)) pe_int))))))),?_⟩
 k_units
 refine⟨_,.inl hR,?_⟩
 rw [List.length_map]
 have ql:¬IsRule ps->E (.ref T.c_NoRule) none H:=fun h=>(q.resolve_left fun z=>h z.1).2
 refine ite2 (fun h=>?_) (fun h=>?_)
 ·exact⟨by decide,ql fun z=>z.1 (List.eq_nil_of_length_eq_zero (by rw [← hL.len];omega))⟩
 have hne:ps≠[]:=by intro z;have:=hL.len;rw [z] at this;simp at this;rw [this] at h;simp at h
 obtain⟨a,p,e1,e2,e3,hp⟩:=hL.lastAt hne
 refine⟨_,hR,_,e1,?_⟩
 k_units
 refine⟨_,.inl hp,?_⟩
 rw [List.length_map]
 refine ite2 (fun h2=>⟨by decide,ql fun z=>z.2.1 p e3 (List.eq_nil_of_length_eq_zero (by omega))⟩) (fun h2=>⟨⟨_,hR⟩,?_⟩)
 have hp0:p≠[]:=by intro z;rw [z] at h2;simp at h2
 obtain⟨Pv,hPv⟩:∃Pv:Nat->L2.St->Hp->Prop,∀i σ H',Pv i σ H'↔∃r:Option V,σ=[some (V.ref R),r]∧H'=H∧∀x∈ps.take i,Nml x:=⟨_,fun _ _ _=>Iff.rfl⟩
 refine lp_list (xs:=as.map V.ref) Pv ((hPv _ _ _).mpr ⟨_,rfl,rfl,by simp⟩) (fun i σ H' _ z=>by obtain⟨_,_,rfl,_⟩:=(hPv i σ H').mp z;exact hR) ?_ ?_
 ·intro i v σ H' hv hp'
  obtain⟨r,rfl,rfl,hn⟩:=(hPv _ _ _).mp hp'
  obtain⟨a',p',rfl,ha,hp2,hA⟩:=hL.nth hv
  have nxt:Nml p'->Pv (i+1) [some (V.ref R),some (V.ref a')] H':=fun h=>(hPv _ _ _).mpr ⟨_,rfl,rfl,fun x hx=>by
   rw [List.take_succ,hp2] at hx
   rcases List.mem_append.mp hx with z | z
   ·exact hn x z
   ·rw [show x=p' by simpa using z];exact h⟩
  k_units
  refine⟨_,.inl hA,?_⟩
  rw [List.length_map]
  refine ite2 (fun h3=>?_) (fun h3=>nxt (by rw [List.eq_nil_of_length_eq_zero (show p'.length=0 by omega)];exact nml_nil))
  have hne':p'≠[]:=by intro z;rw [z] at h3;simp at h3
  refine⟨_,hA,_,at_last hne',?_⟩
  k_units
  refine ite2 (fun h0=>⟨by decide,ql fun z=>nml_last.mp (z.2.2 p' (List.mem_of_getElem? hp2)) _ (List.getLast?_eq_some_getLast hne') h0⟩) (fun h0=>nxt (nml_last.mpr fun x hx=>?_))
  rw [List.getLast?_eq_some_getLast hne'] at hx
  rw [← Option.some.inj hx];exact h0
 ·intro σ H' hp'
  obtain⟨r,rfl,rfl,hn⟩:=(hPv _ _ _).mp hp'
  rw [List.length_map,hL.len,List.take_length] at hn
  k_units
  refine⟨_,.inl hR,?_⟩
  rw [List.length_map,hL.len]
  exact (q.resolve_right fun z=>z.1 ⟨hne,fun p2 e=>by rw [e3] at e;cases e;exact hp0,hn⟩).2
def spNeed (K:W.Frag) (c d:Addr):Sp:=fun vs H Q E=>∃(R:Addr) (as:List Addr) (ps:List (List Int)),vs=[.ref R]∧SqL K H R (as.map V.ref)∧LL K H as ps∧ps.length<=1000∧
 ((¬IsRule ps∧E (.ref c) none H)∨(IsRule ps∧∃xs,ps.getLast?=some xs∧xs.length<=64∧(∀x∈xs,Bd 200 x)∧
  ((∃m:Nat,m<=60∧clr m xs=true∧(∀j:Nat,j < m->clr j xs=false)∧∀H',Same H H'->Q (.int ((ps.length:Int) - 1+m)) H')∨((∀j:Nat,j<=60->clr j xs=false)∧∀H',Same H H'->E (.ref d) none H'))))
theorem ok_need_of {P:Program} {w:World} {K:W.Frag} {mg:Str->Option Value} {base:Heap} (T:Tx K mg):FnOk P w K mg base (CXE P w) 5 T.a_need_of T.fd_need_of ["rule"] (spNeed K T.c_NoRule T.c_TooGreat):=by
 refine T.F_need_of.okE sc_need_of (fun vs H Q E h=>?_) (fun cdv A outer s H vs Q E hr h=>?_)
 ·obtain⟨R,as,ps,rfl,_⟩:=h
  rfl
 obtain⟨R,as,ps,rfl,hR,hL,hl,q⟩:=h
 refine⟨_,((pss_cons (ps_set (i:=1) sc_need_of.nd rfl (Or.inl rfl) (pe_call (FnOk.mono (ok_order_of T) (by decide)) hr rfl T.m_order_of T.F_order_of.kp T.b_order_of .nil passE (pa_cons (pv 0) pa_nil)))
  (pss_one (ps_ret (pe_op op_add (pv 1) (pe_call (FnOk.mono (ok_reach T) (by decide)) hr rfl T.m_reach T.F_reach.kp T.b_reach .nil passE (pa_cons (pe_ix ix_list (pv 0) (pe_un un_neg pe_int) (fun _ _=>rfl)) pa_nil))))))),?_⟩
 k_units
 refine⟨R,as,ps,rfl,hR,hL,hl,?_⟩
 rcases q with ⟨hn,q⟩ | ⟨hI,xs,e3,lx,bx,q⟩
 ·exact .inr ⟨hn,q⟩
 refine .inl ⟨hI,?_⟩
 obtain⟨a,p,e1,e2,e4,hp⟩:=hL.lastAt hI.1
 obtain rfl:p=xs:=by rw [e3] at e4;exact (Option.some.inj e4).symm
 have hne:=hI.2.1 p e3
 refine⟨_,hR,_,e1,a,p,rfl,hp,lx,bx,.inr ⟨hne,?_⟩⟩
 rcases q with ⟨m,m60,m1,m2,q⟩ | ⟨hno,q⟩
 ·exact .inl ⟨m,m60,m1,m2,fun H' s'=>⟨_,rfl,_,rfl,q H' s'⟩⟩
 ·exact .inr ⟨hno,q⟩
theorem val_bd {k l:Nat} {n:Int} (hn:Bd l n):∀xs:List Int,(∀x∈xs,Bd k x)->Bd (k+(l+1) * xs.length) (val n xs)
 | [],_=>Bd.zero _
 | x :: xs,h=>by
  have i:=val_bd hn xs fun y hy=>h y (by simp [hy])
  have e:val n (x :: xs)=x+n * val n xs:=rfl
  rw [e,List.length_cons,Nat.mul_succ]
  exact (((h x (by simp)).mono (l:=l+(k+(l+1) * xs.length)) (by omega)).add (hn.mul i)).mono (by omega)
theorem co_in {xs:List Int} {P:Int->Prop} (h:∀x∈xs,P x) (h0:P 0) (j:Nat):P (co xs j):=by
 by_cases z:j < xs.length
 ·rw [co_lt z];exact h _ (List.getElem_mem z)
 ·rw [co_ge (by omega)];exact h0
theorem in_co {xs:List Int} {P:Int->Prop} (h:∀j,P (co xs j)):∀x∈xs,P x:=fun x hx=>by
 obtain⟨k,hk,rfl⟩:=List.mem_iff_getElem.mp hx
 rw [← co_lt hk];exact h k
theorem nml_of_last {xs:List Int} (h:xs=[]∨co xs (xs.length - 1)≠0):Nml xs:=by
 refine nml_last.mpr fun x hx=>?_
 rcases h with rfl | h
 ·simp at hx
 ·have hl:xs.length≠0:=by intro z;rw [List.eq_nil_of_length_eq_zero z] at hx;simp at hx
  rw [co_lt (by omega)] at h
  rw [List.getLast?_eq_getElem?,List.getElem?_eq_getElem (by omega)] at hx
  rw [← Option.some.inj hx];exact h
theorem nml_one1 (xs:List Int):Nml (xs++[1]):=nml_last.mpr fun x hx=>by rw [List.getLast?_concat] at hx;rw [← Option.some.inj hx];decide
theorem mulP_le {M N:Nat} {ys:List Int} (hy:∀y∈ys,y.natAbs<=N):∀xs:List Int,(∀x∈xs,x.natAbs<=M)->∀j,(co (mulP xs ys) j).natAbs<=xs.length * (M * N)
 | [],_,j=>by simp [mulP,co_nil]
 | x :: xs,h,j=>by
  have cm:co (ys.map fun z=>x * z) j=x * co ys j:=by
   by_cases h:j < ys.length
   ·rw [co_lt (by rw [List.length_map];exact h),co_lt h,List.getElem_map]
   ·rw [co_ge (by rw [List.length_map];omega),co_ge (xs:=ys) (by omega)];simp
  have h1:(x * co ys j).natAbs<=M * N:=by
   rw [Int.natAbs_mul]
   refine Nat.mul_le_mul (h x (by simp)) ?_
   by_cases z:j < ys.length
   ·rw [co_lt z];exact hy _ (List.getElem_mem z)
   ·rw [co_ge (by omega)];exact Nat.zero_le _
  have h2:(co (0 :: mulP xs ys) j).natAbs<=xs.length * (M * N):=by
   rw [co_cons]
   split
   ·exact Nat.zero_le _
   ·exact mulP_le hy xs (fun y hy=>h y (by simp [hy])) _
  have e:co (mulP (x :: xs) ys) j=x * co ys j+co (0 :: mulP xs ys) j:=by rw [mulP,co_addP,cm]
  rw [e,List.length_cons,Nat.add_mul,Nat.one_mul]
  have:=Int.natAbs_add_le (x * co ys j) (co (0 :: mulP xs ys) j)
  omega
theorem pm_bd {xs ys:List Int} {k l c:Nat} (hx:∀x∈xs,Bd k x) (hy:∀y∈ys,Bd l y) (hl:xs.length<=2 ^ c) (j:Nat):Bd (k+l+c) (pm (co xs) (co ys) j):=by
 rw [← co_mulP]
 have h1:=mulP_le (M:=2 ^ k - 1) (N:=2 ^ l - 1) (ys:=ys) (fun y h=>by have:y.natAbs < 2 ^ l:=hy y h;omega) xs (fun x h=>by have:x.natAbs < 2 ^ k:=hx x h;omega) j
 have p1:=Nat.two_pow_pos k
 have p2:=Nat.two_pow_pos l
 have p3:=Nat.two_pow_pos c
 have h2:(2 ^ k - 1) * (2 ^ l - 1) < 2 ^ k * 2 ^ l:=by
  refine Nat.lt_of_le_of_lt (Nat.mul_le_mul_left _ (Nat.sub_le _ 1)) ?_
  exact Nat.mul_lt_mul_of_pos_right (by omega) p2
 show (co (mulP xs ys) j).natAbs < 2 ^ (k+l+c)
 rw [Nat.pow_add,Nat.pow_add]
 refine Nat.lt_of_le_of_lt h1 ?_
 refine Nat.lt_of_le_of_lt (Nat.mul_le_mul_right _ hl) ?_
 rw [Nat.mul_comm (2 ^ k * 2 ^ l)]
 exact Nat.mul_lt_mul_of_pos_left h2 p3
theorem prod_len {xs ys ws:List Int} (nx:Nml xs) (ny:Nml ys) (nw:Nml ws) (h:∀j,co ws j=pm (co xs) (co ys) j):ws.length<=xs.length+ys.length - 1:=by
 by_cases x0:xs=[]
 ·rw [nml_zero nw fun k=>by rw [h k,x0];exact sumN_zero fun j _=>by rw [co_nil];simp];exact Nat.zero_le _
 by_cases w0:ws=[]
 ·rw [w0];exact Nat.zero_le _
 have:=(div_len nx x0 nw ny (one:=ws) (q:=ys) h w0).2
 omega
theorem co_mapc (c:Int) (xs:List Int) (j:Nat):co (xs.map fun z=>c * z) j=c * co xs j:=by
 by_cases h:j < xs.length
 ·rw [co_lt (by rw [List.length_map];exact h),co_lt h,List.getElem_map]
 ·rw [co_ge (by rw [List.length_map];omega),co_ge (xs:=xs) (by omega)];simp
theorem val_trim (n:Int) (xs:List Int):val n (trim xs)=val n xs:=val_of_co (fun k=>trim_co xs k) n
def pdL (g h:List Int):List Int:=trim (mulP g h)
theorem pd_nml (g h:List Int):Nml (pdL g h):=trim_nml _
theorem pd_val (n:Int) (g h:List Int):val n (pdL g h)=val n g * val n h:=by unfold pdL;rw [val_trim,val_mulP]
theorem pd_co (g h:List Int) (j:Nat):co (pdL g h) j=pm (co g) (co h) j:=by unfold pdL;rw [trim_co,co_mulP]
theorem pd_ne {g h:List Int} (ng:Nml g) (nh:Nml h) (g0:g≠[]) (h0:h≠[]):pdL g h≠[]:=fun z=>by
 have:=pd_co g h (h.length - 1+(g.length - 1))
 rw [z,co_nil,pm_top (fun j hj=>co_over j hj) (fun j hj=>co_over j hj)] at this
 exact Int.mul_ne_zero (co_last ng g0) (co_last nh h0) this.symm
theorem pd_len {g h:List Int} (ng:Nml g) (nh:Nml h):(pdL g h).length<=g.length+h.length - 1:=prod_len ng nh (pd_nml _ _) (pd_co g h)
theorem zip_sign {c:Int}:∀{xs ys:List Int},(∀x∈xs,0<=x * c)->(∀y∈ys,0<=y * c)->∀z∈List.zipWith (·+·) xs ys,0<=z * c
 | [],_,_,_,z,h=>by simp at h
 | _ :: _,[],_,_,z,h=>by simp at h
 | x :: xs,y :: ys,h1,h2,z,h=>by
  rw [List.zipWith_cons_cons] at h
  rcases List.mem_cons.mp h with rfl | h
  ·have a:=h1 x (by simp)
   have b:=h2 y (by simp)
   rw [Int.add_mul];omega
  ·exact zip_sign (fun x hx=>h1 x (by simp [hx])) (fun y hy=>h2 y (by simp [hy])) z h
theorem moved_sign {d c:Int} (hd:0<=d):∀ys:List Int,(∀y∈ys,0<=y * c)->∀z∈movedL d ys,0<=z * c
 | [],_,z,h=>by simp [movedL] at h
 | y :: ys,h,z,hz=>by
  have ih:=moved_sign hd ys fun y hy=>h y (by simp [hy])
  have e:movedL d (y :: ys)=List.zipWith (·+·) (y :: movedL d ys) ((movedL d ys).map (fun x=>d * x)++[0]):=rfl
  rw [e] at hz
  refine zip_sign (fun x hx=>?_) (fun x hx=>?_) z hz
  ·rcases List.mem_cons.mp hx with rfl | hx
   ·exact h _ (by simp)
   ·exact ih x hx
  ·rcases List.mem_append.mp hx with hx | hx
   ·obtain⟨u,hu,rfl⟩:=List.mem_map.mp hx
    rw [Int.mul_assoc]
    exact Int.mul_nonneg hd (ih u hu)
   ·rw [List.mem_singleton.mp hx];simp
theorem hd_val (ys:List Int):hd ys=val 0 ys:=by cases ys <;> simp [hd,val]
theorem clear_mono {xs:List Int} {m n:Int} (hmn:m<=n) (h:Clear (shiftL m xs)):Clear (shiftL n xs):=by
 have e:shiftL n xs=movedL (n - m) (shiftL m xs):=val_ext (by rw [moved_len,shift_len,shift_len]) fun k=>by rw [val_moved,val_shift,val_shift];congr 1;omega
 rw [e]
 obtain⟨h0,h1⟩:=h
 generalize shiftL m xs=ys at h0 h1
 have hd0:hd (movedL (n - m) ys)=val (n - m) ys:=by rw [hd_val,val_moved,Int.zero_add]
 have v0:=clear_val (n:=n - m) (by omega) ⟨h0,h1⟩
 have v1:=val_sign (n:=n - m) (by omega) (hd ys) ys h1
 refine⟨by rw [hd0];exact v0,fun z hz=>?_⟩
 have z1:=moved_sign (show 0<=n - m by omega) ys h1 z hz
 rw [hd0]
 generalize val (n - m) ys=v at v0 v1
 generalize hd ys=c at h0 v1 z1
 rcases Int.lt_or_gt_of_ne h0 with hc | hc
 ·have hv:v<=0:=by
   rcases Decidable.em (0 < v) with q | q
   ·have:=Int.mul_neg_of_pos_of_neg q hc;omega
   ·omega
  have hz:z<=0:=by
   rcases Decidable.em (0 < z) with q | q
   ·have:=Int.mul_neg_of_pos_of_neg q hc;omega
   ·omega
  exact Int.mul_nonneg_of_nonpos_of_nonpos hz hv
 ·have hv:0<=v:=by
   rcases Decidable.em (v < 0) with q | q
   ·have:=Int.mul_neg_of_neg_of_pos q hc;omega
   ·omega
  have hz:0<=z:=by
   rcases Decidable.em (z < 0) with q | q
   ·have:=Int.mul_neg_of_neg_of_pos q hc;omega
   ·omega
  exact Int.mul_nonneg hz hv
theorem clr_mono {xs:List Int} {m n:Int} (hmn:m<=n) (h:clr m xs=true):clr n xs=true:=(clr_iff _ _).mpr (clear_mono hmn ((clr_iff _ _).mp h))
def mulR (rs:List Int) (s:List Int):List Int:=rs.foldl (fun p r=>pdL p [-r,1]) s
def prodR (n:Int):List Int->Int
 | []=>1
 | r :: rs=>(n - r) * prodR n rs
theorem mulR_val (n:Int):∀(rs s:List Int),val n (mulR rs s)=val n s * prodR n rs
 | [],s=>by simp [mulR,prodR]
 | r :: rs,s=>by
  have:=mulR_val n rs (pdL s [-r,1])
  unfold mulR at this ⊢
  rw [List.foldl_cons,this,pd_val]
  simp only [val,prodR];grind
theorem mulR_nml:∀(rs s:List Int),Nml s->Nml (mulR rs s)
 | [],_,h=>h
 | r :: rs,s,_=>mulR_nml rs (pdL s [-r,1]) (pd_nml _ _)
theorem mulR_ne:∀(rs s:List Int),Nml s->s≠[]->mulR rs s≠[]
 | [],_,_,h=>h
 | r :: rs,s,n,h=>mulR_ne rs (pdL s [-r,1]) (pd_nml _ _) (pd_ne n (nml_one1 [-r]) h (by simp))
theorem mulR_len:∀(rs s:List Int),Nml s->(mulR rs s).length<=s.length+rs.length
 | [],_,_=>by simp [mulR]
 | r :: rs,s,n=>by
  have h1:=mulR_len rs (pdL s [-r,1]) (pd_nml _ _)
  have h2:(pdL s [-r,1]).length<=s.length+2 - 1:=pd_len n (nml_one1 [-r])
  have e:mulR (r :: rs) s=mulR rs (pdL s [-r,1]):=rfl
  rw [e]
  rw [List.length_cons]
  omega
theorem mulR_bd {k:Nat}:∀(rs s:List Int),Nml s->(∀r∈rs,r.natAbs < 64)->s.length+rs.length<=8->(∀x∈s,Bd k x)->∀x∈mulR rs s,Bd (k+10 * rs.length) x
 | [],_,_,_,_,h=>by simpa [mulR] using h
 | r :: rs,s,n,hr,hl,h=>by
  have e:mulR (r :: rs) s=mulR rs (pdL s [-r,1]):=rfl
  rw [e]
  have r6:=hr r (by simp)
  have h1:∀x∈pdL s [-r,1],Bd (k+7+3) x:=in_co fun j=>by
   rw [pd_co]
   refine pm_bd h (fun y hy=>?_) (by simp at hl;omega) j
   simp at hy
   rcases hy with rfl | rfl
   ·exact Bd.of_lt (m:=64) (by omega) (by decide)
   ·exact Bd.one (by decide)
  have h2:(pdL s [-r,1]).length<=s.length+2 - 1:=pd_len n (nml_one1 [-r])
  rw [List.length_cons] at hl
  intro x hx
  have:=mulR_bd rs (pdL s [-r,1]) (pd_nml _ _) (fun y hy=>hr y (by simp [hy])) (by omega) h1 x hx
  rw [List.length_cons]
  exact this.mono (by omega)
theorem prodR_zero {n:Int}:∀{rs:List Int},prodR n rs=0↔n∈rs
 | []=>by simp [prodR]
 | r :: rs=>by
  simp only [prodR,Int.mul_eq_zero,List.mem_cons,prodR_zero (rs:=rs)]
  constructor
  ·rintro (h | h)
   ·exact .inl (by omega)
   ·exact .inr h
  ·rintro (h | h)
   ·exact .inl (by omega)
   ·exact .inr h
def Os (xs:List Int):Prop:=co xs 0≠0∧∀j,0<=co xs j * co xs 0
theorem os_clear {xs:List Int}:Os xs↔Clear xs:=by
 unfold Os Clear
 rw [hd_co]
 exact⟨fun h=>⟨h.1,in_co (P:=fun y=>0<=y * co xs 0) h.2⟩,fun h=>⟨h.1,fun j=>co_in (P:=fun y=>0<=y * co xs 0) h.2 (by simp) j⟩⟩
theorem os_co {xs ys:List Int} (h:∀j,co xs j=co ys j):Os xs↔Os ys:=by unfold Os;simp only [h]
theorem pd_lin (s:List Int) (d:Int) (j:Nat):co (pdL s [d,1]) j=d * co s j+if j=0 then 0 else co s (j - 1):=by
 have e:∀n,val n (pdL s [d,1])=val n (addP (s.map fun z=>d * z) (0 :: s)):=fun n=>by
  rw [pd_val,val_addP,val_map];simp only [val];grind
 rw [co_of_val e j,co_addP,co_mapc,co_cons]
theorem os_lin {s:List Int} {d:Int} (h:Os s) (hd:0 < d):Os (pdL s [d,1]):=by
 obtain⟨h0,h1⟩:=h
 have e0:co (pdL s [d,1]) 0=d * co s 0:=by rw [pd_lin,if_pos rfl];omega
 unfold Os
 rw [e0]
 refine⟨Int.mul_ne_zero (by omega) h0,fun j=>?_⟩
 rw [pd_lin]
 have a:=h1 j
 have b:0<=(if j=0 then 0 else co s (j - 1)) * co s 0:=by
  split
  ·simp
  ·exact h1 _
 generalize (if j=0 then 0 else co s (j - 1))=z at b
 have e:(d * co s j+z) * (d * co s 0)=d * (d * (co s j * co s 0))+d * (z * co s 0):=by grind
 rw [e]
 exact Int.add_nonneg (Int.mul_nonneg (by omega) (Int.mul_nonneg (by omega) a)) (Int.mul_nonneg (by omega) b)
theorem os_mulR {m:Int}:∀(rs s:List Int),Os s->(∀r∈rs,r < m)->Os (mulR (rs.map fun r=>r - m) s)
 | [],_,h,_=>h
 | r :: rs,s,h,hr=>by
  have e:mulR ((r :: rs).map fun r=>r - m) s=mulR (rs.map fun r=>r - m) (pdL s [-(r - m),1]):=rfl
  rw [e]
  exact os_mulR rs _ (os_lin h (by have:=hr r (by simp);omega)) fun x hx=>hr x (by simp [hx])
theorem prodR_sh (n m:Int):∀rs:List Int,prodR (n+m) rs=prodR n (rs.map fun r=>r - m)
 | []=>rfl
 | r :: rs=>by simp only [List.map_cons,prodR,prodR_sh n m rs];congr 1;omega
theorem clr_yes {t rs:List Int} {m:Int} (ht:clr m t=true) (hr:∀r∈rs,r < m):clr m (mulR rs t)=true:=by
 rw [clr_iff,← os_clear] at ht ⊢
 refine (os_co fun j=>?_).mpr (os_mulR rs _ ht hr)
 refine co_of_val (fun n=>?_) j
 rw [val_shift,mulR_val,mulR_val,val_shift,prodR_sh]
theorem clr_nope {t rs:List Int} {m r:Int} (hr:r∈rs) (hm:m<=r):clr m (mulR rs t)=false:=by
 refine Bool.eq_false_iff.mpr fun z=>?_
 have z1:=(clr_iff _ _).mp (clr_mono hm z)
 refine z1.1 ?_
 rw [hd_val,val_shift,mulR_val,Int.zero_add,prodR_zero.mpr hr,Int.mul_zero]
theorem val_clr {t:List Int} {m n:Int} (h:clr m t=true) (hn:m<=n):val n t≠0:=by
 have z1:=(clr_iff _ _).mp (clr_mono hn h)
 have:=z1.1
 rwa [hd_val,val_shift,Int.zero_add] at this
structure TL (K:W.Frag) (H:Hp) (as:List Addr) (fs:List (Int×Int)):Prop where
 len:as.length=fs.length
 get:∀(i:Nat) (a:Addr) (f:Int×Int),as[i]?=some a->fs[i]?=some f->SqT K H a [.int f.1,.int f.2]
theorem TL.same {K:W.Frag} {H H':Hp} {as:List Addr} {fs:List (Int×Int)} (h:TL K H as fs) (s:Same H H'):TL K H' as fs:=⟨h.len,fun i a f h1 h2=>s.seqT (h.get i a f h1 h2)⟩
theorem TL.nth {K:W.Frag} {H:Hp} {as:List Addr} {fs:List (Int×Int)} (h:TL K H as fs) {i:Nat} {v:V} (hv:(as.map V.ref)[i]?=some v):∃a f,v=.ref a∧as[i]?=some a∧fs[i]?=some f∧SqT K H a [.int f.1,.int f.2]:=by
 rw [List.getElem?_map] at hv
 obtain⟨a,ha,rfl⟩:=Option.map_eq_some_iff.mp hv
 have hi:=(List.getElem?_eq_some_iff.mp ha).1
 have hp:i < fs.length:=by rw [← h.len];exact hi
 exact⟨a,fs[i],rfl,ha,List.getElem?_eq_getElem hp,h.get i a _ ha (List.getElem?_eq_getElem hp)⟩
def Frc (f:Int×Int):Prop:=1<=f.2∧Nat.gcd f.1.natAbs f.2.natAbs=1
theorem wtd {v x y:Int} (hy:1<=y) (hg:Nat.gcd x.natAbs y.natAbs=1):∃g:Int,((Nat.gcd v.natAbs y.natAbs:Nat):Int)=g∧g≠0∧∃v' y':Int,v.fdiv g=v'∧y.fdiv g=y'∧v=g * v'∧y=g * y'∧1<=y'∧Nat.gcd (v' * x).natAbs y'.natAbs=1:=by
 have gp:0 < Nat.gcd v.natAbs y.natAbs:=Nat.gcd_pos_of_pos_right _ (by omega)
 refine⟨_,rfl,by omega,?_⟩
 obtain⟨v',hv⟩:((Nat.gcd v.natAbs y.natAbs:Nat):Int)∣v:=Int.dvd_natAbs.mp (Int.natCast_dvd_natCast.mpr (Nat.gcd_dvd_left _ _))
 obtain⟨y',hy'⟩:((Nat.gcd v.natAbs y.natAbs:Nat):Int)∣y:=Int.dvd_natAbs.mp (Int.natCast_dvd_natCast.mpr (Nat.gcd_dvd_right _ _))
 have ed:∀(g a b:Int),g≠0->a=g * b->a.fdiv g=b:=fun g a b h e=>by rw [e];exact Int.mul_fdiv_cancel_left b h
 have e1:=ed _ _ _ (show ((Nat.gcd v.natAbs y.natAbs:Nat):Int)≠0 by omega) hv
 have e2:=ed _ _ _ (show ((Nat.gcd v.natAbs y.natAbs:Nat):Int)≠0 by omega) hy'
 have y1:1<=y':=by
  rcases Decidable.em (1<=y') with q | q
  ·exact q
  ·have:((Nat.gcd v.natAbs y.natAbs:Nat):Int) * y'<=0:=Int.mul_nonpos_of_nonneg_of_nonpos (by omega) (by omega)
   omega
 have nv:v.natAbs=Nat.gcd v.natAbs y.natAbs * v'.natAbs:=by conv=>lhs;rw [hv,Int.natAbs_mul,Int.natAbs_natCast]
 have ny:y.natAbs=Nat.gcd v.natAbs y.natAbs * y'.natAbs:=by conv=>lhs;rw [hy',Int.natAbs_mul,Int.natAbs_natCast]
 have c1:Nat.gcd v'.natAbs y'.natAbs=1:=by
  have:Nat.gcd v.natAbs y.natAbs * Nat.gcd v'.natAbs y'.natAbs=Nat.gcd v.natAbs y.natAbs * 1:=by
   rw [← Nat.gcd_mul_left,← nv,← ny,Nat.mul_one]
  exact Nat.eq_of_mul_eq_mul_left gp this
 have c2:Nat.gcd x.natAbs y'.natAbs=1:=by
  have h:Nat.gcd x.natAbs y'.natAbs∣Nat.gcd x.natAbs y.natAbs:=Nat.dvd_gcd (Nat.gcd_dvd_left _ _) (Nat.dvd_trans (Nat.gcd_dvd_right _ _) ⟨_,by rw [ny,Nat.mul_comm]⟩)
  rw [hg] at h
  exact Nat.dvd_one.mp h
 refine⟨v',y',e1,e2,hv,hy',y1,?_⟩
 rw [Int.natAbs_mul]
 exact Nat.Coprime.mul_left c1 c2
def Sm (M:Int):List (Int×Int)->Int
 | []=>0
 | f :: fs=>f.1 * M.fdiv f.2+Sm M fs
theorem fdiv_mul_of {M b k:Int} (hb:1<=b) (h:b∣M):(M * k).fdiv b=k * M.fdiv b:=by
 obtain⟨c,rfl⟩:=h
 rw [Int.mul_fdiv_cancel_left c (by omega),Int.mul_assoc,Int.mul_fdiv_cancel_left (c * k) (by omega),Int.mul_comm]
theorem Sm_scale {M k:Int}:∀{fs:List (Int×Int)},(∀f∈fs,1<=f.2∧f.2∣M)->Sm (M * k) fs=k * Sm M fs
 | [],_=>by simp [Sm]
 | f :: fs,h=>by
  have ih:=Sm_scale (k:=k) (fs:=fs) fun g hg=>h g (by simp [hg])
  simp only [Sm]
  rw [ih,fdiv_mul_of (h f (by simp)).1 (h f (by simp)).2];grind
theorem Sm_two {M M':Int} {fs:List (Int×Int)} (h:∀f∈fs,1<=f.2∧f.2∣M) (h':∀f∈fs,1<=f.2∧f.2∣M'):Sm M fs * M'=Sm M' fs * M:=by
 have a:=Sm_scale (k:=M') h
 have b:=Sm_scale (k:=M) h'
 rw [Int.mul_comm M' M] at b
 rw [a] at b
 rw [Int.mul_comm,b,Int.mul_comm]
theorem Sm_live (M:Int):∀fs:List (Int×Int),Sm M (fs.filter fun f=>f.1 != 0)=Sm M fs
 | []=>rfl
 | f :: fs=>by
  have ih:=Sm_live M fs
  by_cases z:f.1=0
  ·rw [List.filter_cons_of_neg (by simp [z])]
   simp only [Sm];rw [ih,z];simp
  ·rw [List.filter_cons_of_pos (by simp [z])]
   simp only [Sm];rw [ih]
theorem Sm_snoc (M:Int):∀(fs:List (Int×Int)) (f:Int×Int),Sm M (fs++[f])=Sm M fs+f.1 * M.fdiv f.2
 | [],f=>by simp [Sm]
 | g :: fs,f=>by
  have ih:=Sm_snoc M fs f
  rw [List.cons_append]
  simp only [Sm];rw [ih];omega
theorem Sm_map (M:Int):∀fs:List (Int×Int),(fs.map fun f=>f.1 * M.fdiv f.2).sum=Sm M fs
 | []=>rfl
 | f :: fs=>by rw [List.map_cons,List.sum_cons,Sm_map M fs];rfl
theorem tot_of {x y M0:Int} {fs:List (Int×Int)} (hM:1<=M0) (h0:∀f∈fs,1<=f.2∧f.2∣M0) (e:x * M0=y * Sm M0 fs):∀M,(∀f∈fs,f.2∣M)->x * M=y * Sm M fs:=fun M h=>by
 have t:=Sm_two h0 (fun f hf=>⟨(h0 f hf).1,h f hf⟩)
 have e2:M0 * (x * M)=M0 * (y * Sm M fs):=by
  have:x * M0 * M=y * (Sm M0 fs * M):=by rw [e,Int.mul_assoc]
  rw [t] at this
  grind
 exact Int.eq_of_mul_eq_mul_left (by omega) e2
theorem lcm_step {b f:Int} (hb:1<=b) (hf:1<=f):∃g:Int,((Nat.gcd b.natAbs f.natAbs:Nat):Int)=g∧g≠0∧g.natAbs<=f.natAbs∧1<=b * f.fdiv g∧b∣b * f.fdiv g∧f∣b * f.fdiv g∧(f.fdiv g).natAbs<=f.natAbs:=by
 have gp:0 < Nat.gcd b.natAbs f.natAbs:=Nat.gcd_pos_of_pos_right _ (by omega)
 obtain⟨b',hb'⟩:((Nat.gcd b.natAbs f.natAbs:Nat):Int)∣b:=Int.dvd_natAbs.mp (Int.natCast_dvd_natCast.mpr (Nat.gcd_dvd_left _ _))
 obtain⟨f',hf'⟩:((Nat.gcd b.natAbs f.natAbs:Nat):Int)∣f:=Int.dvd_natAbs.mp (Int.natCast_dvd_natCast.mpr (Nat.gcd_dvd_right _ _))
 have gf:Nat.gcd b.natAbs f.natAbs<=f.natAbs:=Nat.gcd_le_right _ (by omega)
 refine⟨_,rfl,by omega,by rw [Int.natAbs_natCast];exact gf,?_⟩
 have ed:∀(g a b:Int),g≠0->a=g * b->a.fdiv g=b:=fun g a b h e=>by rw [e];exact Int.mul_fdiv_cancel_left b h
 rw [ed _ _ _ (show ((Nat.gcd b.natAbs f.natAbs:Nat):Int)≠0 by omega) hf']
 have f1:1<=f':=by
  rcases Decidable.em (1<=f') with q | q
  ·exact q
  ·have:((Nat.gcd b.natAbs f.natAbs:Nat):Int) * f'<=0:=Int.mul_nonpos_of_nonneg_of_nonpos (by omega) (by omega)
   omega
 refine⟨?_,Int.dvd_mul_right _ _,⟨b',?_⟩,?_⟩
 ·have:=Int.mul_le_mul hb f1 (by omega) (by omega);omega
 ·generalize ((Nat.gcd b.natAbs f.natAbs:Nat):Int)=g at hb' hf'
  rw [hb'];conv=>rhs;rw [hf']
  grind
 ·have:f.natAbs=Nat.gcd b.natAbs f.natAbs * f'.natAbs:=by conv=>lhs;rw [hf',Int.natAbs_mul,Int.natAbs_natCast]
  rw [this];exact Nat.le_mul_of_pos_left _ gp
theorem SqT.upd {K:W.Frag} {H:Hp} {a D:Addr} {xs ys zs:List V} (h:SqT K H a xs) (hD:H D=some (.lst ys)):SqT K (L2.upd H D (.lst zs)) a xs:=by
 rcases h with (h | ⟨o,h⟩) | h
 ·exact .inl (.inl (by rw [upd_ne (fun z=>by rw [z,hD] at h;cases h)];exact h))
 ·exact .inl (.inr ⟨o,by rw [upd_ne (fun z=>by rw [z,hD] at h;cases h)];exact h⟩)
 ·exact .inr h
theorem TL.upd {K:W.Frag} {H:Hp} {as:List Addr} {fs:List (Int×Int)} {D:Addr} {ys zs:List V} (h:TL K H as fs) (hD:H D=some (.lst ys)):TL K (L2.upd H D (.lst zs)) as fs:=⟨h.len,fun i a f h1 h2=>SqT.upd (h.get i a f h1 h2) hD⟩
theorem TL.nil (K:W.Frag) (H:Hp):TL K H [] []:=⟨rfl,fun i a f h1 _=>by simp at h1⟩
theorem TL.snoc {K:W.Frag} {H:Hp} {as:List Addr} {fs:List (Int×Int)} {a:Addr} {f:Int×Int} (h:TL K H as fs) (e:SqT K H a [.int f.1,.int f.2]):TL K H (as++[a]) (fs++[f]):=by
 refine⟨by simp [h.len],fun i b r h1 h2=>?_⟩
 by_cases z:i < as.length
 ·rw [List.getElem?_append_left z] at h1
  rw [List.getElem?_append_left (by rw [← h.len];exact z)] at h2
  exact h.get i b r h1 h2
 ·rw [List.getElem?_append_right (by omega)] at h1
  rw [List.getElem?_append_right (by rw [← h.len];omega),← h.len] at h2
  have z2:i - as.length=0:=by
   rcases Nat.eq_zero_or_pos (i - as.length) with y | y
   ·exact y
   ·rw [List.getElem?_eq_none (by simp;omega)] at h1;cases h1
  rw [z2] at h1 h2
  simp at h1 h2
  rw [← h1,← h2];exact e
def Wm (M:Int):List (Int×(Int×Int))->Int
 | []=>0
 | g :: gs=>g.1 * g.2.1 * M.fdiv g.2.2+Wm M gs
theorem wm_one {a b v x y M:Int} (hb:1<=b) (hy:1<=y) (e:a * y=v * x * b) (d:b∣y) (m:y∣M):a * M.fdiv b=v * x * M.fdiv y:=by
 obtain⟨c,rfl⟩:=m
 obtain⟨d',rfl⟩:=d
 have e1:b * d' * c=b * (d' * c):=Int.mul_assoc _ _ _
 rw [Int.mul_fdiv_cancel_left c (by omega),e1,Int.mul_fdiv_cancel_left (d' * c) (by omega)]
 have e2:b * (a * d')=b * (v * x):=by grind
 have e3:=Int.eq_of_mul_eq_mul_left (show b≠0 by omega) e2
 rw [← Int.mul_assoc,e3]
theorem cut_some (bs:List Addr) (n k:Nat) (h:n<=bs.length):cutV (bs.map V.ref) (some (n:Int)) (some ((n:Int)+(k:Int)))=((bs.drop n).take k).map V.ref:=by
 unfold cutV
 rw [show (n:Int)+(k:Int)=((n+k:Nat):Int) by omega,HT.sIx_nat,HT.sIx_nat,List.length_map,Nat.min_eq_left h,← List.map_drop,← List.map_take]
 congr 1
 by_cases z:n+k<=bs.length
 ·rw [Nat.min_eq_left z,Nat.add_sub_cancel_left]
 ·rw [Nat.min_eq_right (by omega),List.take_of_length_le (by rw [List.length_drop];omega),List.take_of_length_le (by rw [List.length_drop];omega)]
theorem TL.part {K:W.Frag} {H:Hp} {as:List Addr} {fs:List (Int×Int)} (h:TL K H as fs) (n k:Nat):TL K H ((as.drop n).take k) ((fs.drop n).take k):=by
 refine⟨by simp [h.len],fun i a f h1 h2=>?_⟩
 have hi:i < k:=by
  have:=(List.getElem?_eq_some_iff.mp h1).1
  rw [List.length_take] at this;omega
 rw [List.getElem?_take_of_lt hi,List.getElem?_drop] at h1 h2
 exact h.get (n+i) a f h1 h2
theorem Wm_snoc (M:Int):∀(gs:List (Int×(Int×Int))) (g:Int×(Int×Int)),Wm M (gs++[g])=Wm M gs+g.1 * g.2.1 * M.fdiv g.2.2
 | [],g=>by simp [Wm]
 | h :: gs,g=>by
  have ih:=Wm_snoc M gs g
  rw [List.cons_append]
  simp only [Wm];rw [ih];omega
def lcmL:List (Int×Int)->Int
 | []=>1
 | f :: fs=>f.2 * lcmL fs
theorem lcm_dvd:∀(fs:List (Int×Int)),∀f∈fs,f.2∣lcmL fs
 | g :: fs,f,h=>by
  rcases List.mem_cons.mp h with rfl | h
  ·exact Int.dvd_mul_right _ _
  ·exact Int.dvd_trans (lcm_dvd fs f h) (Int.dvd_mul_left _ _)
theorem lcm_pos:∀(fs:List (Int×Int)),(∀f∈fs,1<=f.2)->1<=lcmL fs
 | [],_=>by decide
 | f :: fs,h=>by
  have a:=h f (by simp)
  have b:=lcm_pos fs fun g hg=>h g (by simp [hg])
  have:=Int.mul_le_mul a b (by omega) (by omega)
  simp only [lcmL];omega
def Kp (ps:List (List Int)) (fs:List (Int×Int)) (n:Nat):Prop:=Wm (lcmL ((fs.drop n).take ps.length)) ((ps.map (val (n:Int))).zip ((fs.drop n).take ps.length))=0
theorem Wm_scale {M k:Int}:∀{gs:List (Int×(Int×Int))},(∀g∈gs,1<=g.2.2∧g.2.2∣M)->Wm (M * k) gs=k * Wm M gs
 | [],_=>by simp [Wm]
 | g :: gs,h=>by
  have ih:=Wm_scale (k:=k) (gs:=gs) fun f hf=>h f (by simp [hf])
  simp only [Wm]
  rw [ih,fdiv_mul_of (h g (by simp)).1 (h g (by simp)).2];grind
theorem lcm_snoc:∀(fs:List (Int×Int)) (f:Int×Int),lcmL (fs++[f])=lcmL fs * f.2
 | [],f=>by simp [lcmL]
 | g :: fs,f=>by rw [List.cons_append];simp only [lcmL];rw [lcm_snoc fs f,Int.mul_assoc]
theorem cop_dvd {a b c:Int} (h:a∣b * c) (g:Int.gcd a b=1):a∣c:=by
 have h1:=Int.natAbs_dvd_natAbs.mpr h
 rw [Int.natAbs_mul] at h1
 exact Int.natAbs_dvd_natAbs.mp (Nat.Coprime.dvd_of_dvd_mul_left (show Nat.Coprime a.natAbs b.natAbs from g) h1)
def lowF (t b:Int):Int×Int:=
 let s:=if b < 0 then -((Nat.gcd t.natAbs b.natAbs:Nat):Int) else ((Nat.gcd t.natAbs b.natAbs:Nat):Int)
 (t.fdiv s,b.fdiv s)
theorem low_is {t b:Int} (hb:b≠0):Frc (lowF t b)∧(lowF t b).1 * b=t * (lowF t b).2:=by
 obtain⟨h1,_,h3,h4,h5,h6⟩:=gcd_split (t:=t) hb rfl
 refine⟨⟨h5,h6⟩,?_⟩
 show t.fdiv _ * b=t * b.fdiv _
 generalize (if b < 0 then -((Nat.gcd t.natAbs b.natAbs:Nat):Int) else ((Nat.gcd t.natAbs b.natAbs:Nat):Int))=s at h3 h4
 generalize t.fdiv s=x at h3
 generalize b.fdiv s=y at h4
 rw [h3,h4];grind
theorem frc_uniq {f g:Int×Int} (hf:Frc f) (hg:Frc g) (h:f.1 * g.2=g.1 * f.2):f=g:=by
 obtain⟨f1,f2⟩:=hf
 obtain⟨g1,g2⟩:=hg
 have d1:f.2∣g.2:=cop_dvd (b:=f.1) ⟨g.1,by rw [h,Int.mul_comm]⟩ (by rw [Int.gcd_comm];exact f2)
 have d2:g.2∣f.2:=cop_dvd (b:=g.1) ⟨f.1,by rw [← h,Int.mul_comm]⟩ (by rw [Int.gcd_comm];exact g2)
 have e:f.2=g.2:=Int.dvd_antisymm (by omega) (by omega) d1 d2
 rw [e] at h
 have e2:=Int.eq_of_mul_eq_mul_right (show g.2≠0 by omega) h
 exact Prod.ext e2 e
theorem low_uniq {f:Int×Int} {t b:Int} (hf:Frc f) (hb:b≠0) (h:f.1 * b=t * f.2):f=lowF t b:=by
 obtain⟨l1,l2⟩:=low_is (t:=t) hb
 refine frc_uniq hf l1 ?_
 have:b * (f.1 * (lowF t b).2)=b * ((lowF t b).1 * f.2):=by
  generalize lowF t b=g at l2
  have a1:b * (f.1 * g.2)=f.1 * b * g.2:=by grind
  have a2:b * (g.1 * f.2)=g.1 * b * f.2:=by grind
  rw [a1,a2,h,l2];grind
 exact Int.eq_of_mul_eq_mul_left hb this
def ws (ps:List (List Int)) (vs:List (Int×Int)) (n:Nat):List (Int×(Int×Int)):=(ps.map (val (n:Int))).zip (vs.drop n)
def nextF (ps:List (List Int)) (vs:List (Int×Int)):Int×Int:=
 let n:=vs.length - (ps.length - 1)
 lowF (Wm (lcmL (vs.drop n)) (ws ps vs n)) (-(lcmL (vs.drop n) * val (n:Int) (ps.getLastD [])))
theorem last_split {ps:List (List Int)} (h:ps≠[]):ps=ps.dropLast++[ps.getLastD []]:=by
 rw [List.getLastD_eq_getLast?,List.getLast?_eq_some_getLast h]
 exact (List.dropLast_concat_getLast h).symm
theorem zip_le {α β:Type}:∀(xs:List α) (ys:List β) (z:List α),ys.length<=xs.length->(xs++z).zip ys=xs.zip ys
 | _,[],_,_=>by simp
 | [],_ :: _,_,h=>by simp at h
 | x :: xs,y :: ys,z,h=>by
  simp only [List.cons_append,List.zip_cons_cons]
  rw [zip_le xs ys z (by simpa using h)]
theorem kp_snoc {ps:List (List Int)} {vs:List (Int×Int)} {z:Int×Int} {n:Nat} (h0:ps≠[]) (hn:n+ps.length=vs.length+1) (hv:∀f∈vs,1<=f.2) (hz:1<=z.2):
  Kp ps (vs++[z]) n↔z.1 * (lcmL (vs.drop n) * val (n:Int) (ps.getLastD []))=-(Wm (lcmL (vs.drop n)) (ws ps vs n)) * z.2:=by
 have lp:=List.length_pos_iff.mpr h0
 have e1:(vs++[z]).drop n=vs.drop n++[z]:=by rw [List.drop_append_of_le_length (by omega)]
 have e2:(vs.drop n++[z]).take ps.length=vs.drop n++[z]:=List.take_of_length_le (by simp;omega)
 have ld:(vs.drop n).length=ps.length - 1:=by rw [List.length_drop];omega
 have e3:(ps.map (val (n:Int))).zip (vs.drop n++[z])=ws ps vs n++[(val (n:Int) (ps.getLastD []),z)]:=by
  unfold ws
  conv=>lhs;rw [last_split h0]
  conv=>rhs;rw [last_split h0]
  simp only [List.map_append,List.map_cons,List.map_nil]
  rw [List.zip_append (by rw [List.length_map,List.length_dropLast,ld]),zip_le _ _ _ (by rw [List.length_map,List.length_dropLast,ld];exact Nat.le_refl _)]
  simp
 have hm:∀g∈ws ps vs n,1<=g.2.2∧g.2.2∣lcmL (vs.drop n):=fun g hg=>by
  have h2:=(List.of_mem_zip hg).2
  exact⟨hv _ (List.mem_of_mem_drop h2),lcm_dvd _ _ h2⟩
 unfold Kp
 rw [e1,e2,e3,lcm_snoc,Wm_snoc,Wm_scale hm,Int.mul_fdiv_cancel _ (by omega)]
 generalize Wm (lcmL (vs.drop n)) (ws ps vs n)=W
 generalize lcmL (vs.drop n)=M
 generalize val (n:Int) (ps.getLastD [])=v
 show z.2 * W+v * z.1 * M=0↔z.1 * (M * v)=-W * z.2
 constructor
 ·intro h;grind
 ·intro h;grind
theorem next_keeps {ps:List (List Int)} {vs:List (Int×Int)} {n:Nat} (h0:ps≠[]) (hn:n+ps.length=vs.length+1) (hv:∀f∈vs,1<=f.2) (hp:val (n:Int) (ps.getLastD [])≠0):Frc (nextF ps vs)∧Kp ps (vs++[nextF ps vs]) n:=by
 have lp:=List.length_pos_iff.mpr h0
 have M1:=lcm_pos (vs.drop n) fun f hf=>hv f (List.mem_of_mem_drop hf)
 have en:vs.length - (ps.length - 1)=n:=by omega
 have e:nextF ps vs=lowF (Wm (lcmL (vs.drop n)) (ws ps vs n)) (-(lcmL (vs.drop n) * val (n:Int) (ps.getLastD []))):=by unfold nextF;rw [en]
 have b0:-(lcmL (vs.drop n) * val (n:Int) (ps.getLastD []))≠0:=by
  have:=Int.mul_ne_zero (show lcmL (vs.drop n)≠0 by omega) hp
  omega
 obtain⟨l1,l2⟩:=low_is (t:=Wm (lcmL (vs.drop n)) (ws ps vs n)) b0
 rw [e]
 refine⟨l1,(kp_snoc h0 hn hv l1.1).mpr ?_⟩
 generalize lcmL (vs.drop n) * val (n:Int) (ps.getLastD [])=B at l2
 rw [Int.mul_neg] at l2
 rw [Int.neg_mul];omega
theorem kp_app {ps:List (List Int)} {vs us:List (Int×Int)} {n:Nat} (h:n+ps.length<=vs.length):Kp ps (vs++us) n↔Kp ps vs n:=by
 have e:((vs++us).drop n).take ps.length=(vs.drop n).take ps.length:=by
  rw [List.drop_append_of_le_length (by omega),List.take_append_of_le_length (by rw [List.length_drop];omega)]
 unfold Kp;rw [e]
theorem wm_mul (c M:Int):∀(vs:List Int) (fs:List (Int×Int)),Wm M ((vs.map fun v=>v * c).zip fs)=c * Wm M (vs.zip fs)
 | [],_=>by simp [Wm]
 | _ :: _,[]=>by simp [Wm]
 | v :: vs,f :: fs=>by
  simp only [List.map_cons,List.zip_cons_cons,Wm]
  rw [wm_mul c M vs fs];grind
theorem kp_mulR {ps:List (List Int)} {rs:List Int} {fs:List (Int×Int)} {n:Nat}:Kp (ps.map (mulR rs)) fs n↔((n:Int)∈rs∨Kp ps fs n):=by
 unfold Kp
 have e:(ps.map (mulR rs)).map (val (n:Int))=(ps.map (val (n:Int))).map fun v=>v * prodR n rs:=by
  rw [List.map_map,List.map_map]
  refine List.map_congr_left fun p _=>?_
  exact mulR_val n rs p
 rw [List.length_map,e,wm_mul,Int.mul_eq_zero,prodR_zero]
structure InvV (e:Nat) (vs:List (Int×Int)):Prop where
 f:∀f∈vs,Frc f∧f.1.natAbs<=2 ^ (300+90 * vs.length) * f.2.natAbs
 E:∃E:Int,1<=E∧Bd (1+e * vs.length) E∧∀f∈vs,f.2∣E
theorem InvV.nil (e:Nat):InvV e []:=⟨by simp,1,by decide,Bd.one (by simp),by simp⟩
theorem pow_up {a b:Nat} (h:a<=b):2 ^ a<=2 ^ b:=Nat.pow_le_pow_right (by decide) h
theorem InvV.snoc {e:Nat} {vs:List (Int×Int)} {z:Int×Int} {d:Int} (h:InvV e vs) (hz:Frc z) (hb:z.1.natAbs<=2 ^ (300+90 * (vs.length+1)) * z.2.natAbs) (d1:1<=d) (hd:Bd e d) (he:∀E:Int,(∀f∈vs,f.2∣E)->z.2∣E * d):InvV e (vs++[z]):=by
 obtain⟨E,E1,Eb,Ed⟩:=h.E
 refine⟨fun f hf=>?_,E * d,?_,?_,fun f hf=>?_⟩
 ·rw [List.length_append,List.length_cons,List.length_nil]
  rcases List.mem_append.mp hf with hf | hf
  ·have:=h.f f hf
   exact⟨this.1,Nat.le_trans this.2 (Nat.mul_le_mul_right _ (pow_up (by omega)))⟩
  ·rw [List.mem_singleton.mp hf];exact⟨hz,hb⟩
 ·have:=Int.mul_le_mul E1 d1 (by omega) (by omega);omega
 ·rw [List.length_append,List.length_cons,List.length_nil,Nat.mul_add]
  exact (Eb.mul hd).mono (by omega)
 ·rcases List.mem_append.mp hf with hf | hf
  ·exact Int.dvd_trans (Ed f hf) (Int.dvd_mul_right _ _)
  ·rw [List.mem_singleton.mp hf];exact he E Ed
theorem InvV.draw {e:Nat} {vs:List (Int×Int)} {z:Int×Int} (h:InvV e vs) (hz:Frc z) (hx:Bd 200 z.1) (hy:z.2.natAbs<=1000) (h10:10<=e):InvV e (vs++[z]):=by
 refine h.snoc hz ?_ hz.1 (Bd.of_lt (m:=1001) (by omega) (Nat.le_trans (by decide) (pow_up h10))) fun E _=>Int.dvd_mul_left _ _
 have h1:z.1.natAbs<=2 ^ 200:=Nat.le_of_lt hx
 have h2:(2:Nat) ^ 200<=2 ^ (300+90 * (vs.length+1)):=pow_up (by omega)
 have h3:1<=z.2.natAbs:=by have:=hz.1;omega
 exact Nat.le_trans (Nat.le_trans h1 h2) (Nat.le_mul_of_pos_right _ h3)
theorem wm_le {M:Int} {V B:Nat} (hM:1<=M):∀(gs:List (Int×(Int×Int))),(∀g∈gs,g.1.natAbs<=V∧1<=g.2.2∧g.2.2∣M∧g.2.1.natAbs<=B * g.2.2.natAbs)->(Wm M gs).natAbs<=gs.length * (V * (B * M.natAbs))
 | [],_=>by simp [Wm]
 | g :: gs,h=>by
  have ih:=wm_le hM gs fun f hf=>h f (by simp [hf])
  obtain⟨h1,h2,⟨c,hc⟩,h4⟩:=h g (by simp)
  have e:(g.1 * g.2.1 * M.fdiv g.2.2).natAbs<=V * (B * M.natAbs):=by
   have ec:M.fdiv g.2.2=c:=by rw [hc];exact Int.mul_fdiv_cancel_left c (by omega)
   rw [ec,Int.natAbs_mul,Int.natAbs_mul,Nat.mul_assoc]
   refine Nat.mul_le_mul h1 ?_
   refine Nat.le_trans (Nat.mul_le_mul_right _ h4) ?_
   rw [hc,Int.natAbs_mul,Nat.mul_assoc];exact Nat.le_refl _
  have:=Int.natAbs_add_le (g.1 * g.2.1 * M.fdiv g.2.2) (Wm M gs)
  simp only [Wm,List.length_cons]
  rw [Nat.add_mul,Nat.one_mul]
  omega
theorem wm_two {M M':Int} {gs:List (Int×(Int×Int))} (h:∀g∈gs,1<=g.2.2∧g.2.2∣M) (h':∀g∈gs,1<=g.2.2∧g.2.2∣M'):Wm M gs * M'=Wm M' gs * M:=by
 have a:=Wm_scale (k:=M') h
 have b:=Wm_scale (k:=M) h'
 rw [Int.mul_comm M' M] at b
 rw [a] at b
 rw [Int.mul_comm,b,Int.mul_comm]
theorem InvV.next {e:Nat} {ps:List (List Int)} {vs:List (Int×Int)} {n:Nat} (h:InvV e vs) (h0:ps≠[]) (hn:n+ps.length=vs.length+1) (l5:ps.length<=9) (hp:val (n:Int) (ps.getLastD [])≠0) (hv:∀p∈ps,(val (n:Int) p).natAbs<=2 ^ 84) (he:Bd e (val (n:Int) (ps.getLastD []))):InvV e (vs++[nextF ps vs]):=by
 have v1:∀f∈vs,1<=f.2:=fun f hf=>(h.f f hf).1.1
 obtain⟨fz,kz⟩:=next_keeps h0 hn v1 hp
 have lp:=List.length_pos_iff.mpr h0
 have M1:=lcm_pos (vs.drop n) fun f hf=>v1 f (List.mem_of_mem_drop hf)
 have eq:=(kp_snoc h0 hn v1 fz.1).mp kz
 have eqE:∀E:Int,1<=E->(∀f∈vs,f.2∣E)->(nextF ps vs).1 * (E * val (n:Int) (ps.getLastD []))=-(Wm E (ws ps vs n)) * (nextF ps vs).2:=fun E E1 hE=>by
  have t:=wm_two (M:=lcmL (vs.drop n)) (M':=E) (gs:=ws ps vs n) (fun g hg=>by have h2:=(List.of_mem_zip hg).2;exact⟨v1 _ (List.mem_of_mem_drop h2),lcm_dvd _ _ h2⟩) (fun g hg=>by have h2:=(List.of_mem_zip hg).2;exact⟨v1 _ (List.mem_of_mem_drop h2),hE _ (List.mem_of_mem_drop h2)⟩)
  generalize nextF ps vs=z at eq fz
  generalize Wm (lcmL (vs.drop n)) (ws ps vs n)=W at eq t
  generalize Wm E (ws ps vs n)=W' at t
  generalize lcmL (vs.drop n)=M at eq t M1
  generalize val (n:Int) (ps.getLastD [])=v at eq
  have:M * (z.1 * (E * v))=M * (-W' * z.2):=by
   have a1:M * (z.1 * (E * v))=z.1 * (M * v) * E:=by grind
   have a2:M * (-W' * z.2)=-(W' * M) * z.2:=by grind
   rw [a1,a2,eq,← t];grind
  exact Int.eq_of_mul_eq_mul_left (by omega) this
 refine h.snoc (d:=((val (n:Int) (ps.getLastD [])).natAbs:Int)) fz ?_ (by omega) (by show (((val (n:Int) (ps.getLastD [])).natAbs:Int)).natAbs < 2 ^ e;rw [Int.natAbs_natCast];exact he) fun E hE=>?_
 ·obtain⟨E,E1,_,hE⟩:=h.E
  have q:=eqE E E1 hE
  have wl:=wm_le (V:=2 ^ 84) (B:=2 ^ (300+90 * vs.length)) E1 (ws ps vs n) fun g hg=>by
   obtain⟨h1,h2⟩:=List.of_mem_zip hg
   obtain⟨p,hp',e1⟩:=List.mem_map.mp h1
   have hm:=List.mem_of_mem_drop h2
   exact⟨by rw [← e1];exact hv p hp',v1 _ hm,hE _ hm,(h.f _ hm).2⟩
  have lw:(ws ps vs n).length<=8:=by unfold ws;rw [List.length_zip,List.length_map,List.length_drop];omega
  have q2:=congrArg Int.natAbs q
  rw [Int.natAbs_mul,Int.natAbs_mul,Int.natAbs_mul,Int.natAbs_neg] at q2
  generalize nextF ps vs=z at q2 fz
  generalize (Wm E (ws ps vs n)).natAbs=W at q2 wl
  have vp:1<=(val (n:Int) (ps.getLastD [])).natAbs:=by omega
  generalize (val (n:Int) (ps.getLastD [])).natAbs=v at q2 vp
  have Ep:1<=E.natAbs:=by omega
  generalize E.natAbs=En at q2 wl Ep
  generalize (ws ps vs n).length=k at wl lw
  have a1:z.1.natAbs * En<=W * z.2.natAbs:=by
   rw [← q2]
   refine Nat.mul_le_mul_left _ ?_
   exact Nat.le_mul_of_pos_right _ vp
  have a2:W<=2 ^ 3 * (2 ^ 84 * (2 ^ (300+90 * vs.length) * En)):=Nat.le_trans wl (Nat.mul_le_mul_right _ lw)
  have a3:z.1.natAbs * En<=(2 ^ (300+90 * (vs.length+1)) * z.2.natAbs) * En:=by
   refine Nat.le_trans a1 (Nat.le_trans (Nat.mul_le_mul_right _ a2) ?_)
   have e5:2 ^ 3 * (2 ^ 84 * (2 ^ (300+90 * vs.length) * En)) * z.2.natAbs=2 ^ (3+84+(300+90 * vs.length)) * z.2.natAbs * En:=by
    rw [Nat.pow_add 2 (3+84) (300+90 * vs.length),Nat.pow_add 2 3 84]
    generalize 2 ^ (300+90 * vs.length)=X
    generalize (2:Nat) ^ 84=Y
    generalize (2:Nat) ^ 3=Z
    simp only [Nat.mul_assoc,Nat.mul_comm,Nat.mul_left_comm]
   rw [e5]
   exact Nat.mul_le_mul_right _ (Nat.mul_le_mul_right _ (pow_up (by omega)))
  exact Nat.le_of_mul_le_mul_right a3 Ep
 ·by_cases E0:E=0
  ·rw [E0,Int.zero_mul];exact Int.dvd_zero _
  ·have q:=eqE (E.natAbs:Int) (by omega) fun f hf=>Int.dvd_natAbs.mpr (hE f hf)
   have d1:(nextF ps vs).2∣(E.natAbs:Int) * val (n:Int) (ps.getLastD []):=cop_dvd (b:=(nextF ps vs).1) ⟨-(Wm (E.natAbs:Int) (ws ps vs n)),by rw [q,Int.mul_comm]⟩ (by rw [Int.gcd_comm];exact fz.2)
   have d2:=Int.natAbs_dvd_natAbs.mpr d1
   rw [Int.natAbs_mul,Int.natAbs_natCast] at d2
   refine Int.natAbs_dvd_natAbs.mp ?_
   rw [Int.natAbs_mul,Int.natAbs_natCast];exact d2
def Good (vs:List (Int×Int)):Prop:=(∀f∈vs,Frc f∧Bd 20000 f.1)∧∃E:Int,1<=E∧Bd 2900 E∧∀f∈vs,f.2∣E
theorem InvV.good {e:Nat} {vs:List (Int×Int)} (h:InvV e vs) (hl:vs.length<=100) (he:1+e * vs.length<=2900):Good vs:=by
 obtain⟨E,E1,Eb,Ed⟩:=h.E
 refine⟨fun f hf=>⟨(h.f f hf).1,?_⟩,E,E1,Eb.mono he,Ed⟩
 have h1:=(h.f f hf).2
 have h2:f.2.natAbs<=E.natAbs:=Nat.le_of_dvd (by omega) (Int.natAbs_dvd_natAbs.mpr (Ed f hf))
 have h3:E.natAbs < 2 ^ 2900:=Eb.mono he
 show f.1.natAbs < 2 ^ 20000
 have h4:(2:Nat) ^ (300+90 * vs.length)<=2 ^ 9300:=pow_up (by omega)
 have h5:=Nat.mul_le_mul h4 (show f.2.natAbs<=2 ^ 2900 by omega)
 rw [← Nat.pow_add] at h5
 have h6:(2:Nat) ^ (9300+2900) < 2 ^ 20000:=Nat.pow_lt_pow_right (by decide) (by decide)
 omega
theorem lcm_in {b f E:Int} (hb:1<=b) (hf:1<=f) (h1:b∣E) (h2:f∣E):b * f.fdiv ((Nat.gcd b.natAbs f.natAbs:Nat):Int)∣E:=by
 obtain⟨g,hg,g0,_,_,_,_,_⟩:=lcm_step hb hf
 rw [hg]
 have gb:g∣b:=by rw [← hg];exact Int.dvd_natAbs.mp (Int.natCast_dvd_natCast.mpr (Nat.gcd_dvd_left _ _))
 have gf:g∣f:=by rw [← hg];exact Int.dvd_natAbs.mp (Int.natCast_dvd_natCast.mpr (Nat.gcd_dvd_right _ _))
 obtain⟨f',rfl⟩:=gf
 obtain⟨b',rfl⟩:=gb
 rw [Int.mul_fdiv_cancel_left f' g0]
 have cop:Int.gcd f' b'=1:=by
  have e:Int.gcd (g * b') (g * f')=g.natAbs * Int.gcd b' f':=Int.gcd_mul_left ..
  have e2:((Int.gcd (g * b') (g * f'):Nat):Int)=g:=hg
  have e3:(Int.gcd (g * b') (g * f'))=g.natAbs:=by omega
  rw [e3] at e
  have:=Nat.eq_of_mul_eq_mul_left (show 0 < g.natAbs by omega) (show g.natAbs * Int.gcd b' f'=g.natAbs * 1 by omega)
  rw [Int.gcd_comm];exact this
 obtain⟨c,rfl⟩:=h1
 have h3:f'∣b' * c:=Int.dvd_of_mul_dvd_mul_left g0 (by rw [← Int.mul_assoc];exact h2)
 have h4:f'∣c:=cop_dvd h3 cop
 exact Int.mul_dvd_mul_left _ h4
def carryF (ps:List (List Int)) (vs:List (Int×Int)):Nat->List (Int×Int)
 | 0=>vs
 | k+1=>carryF ps vs k++[nextF ps (carryF ps vs k)]
theorem carry_len (ps:List (List Int)) (vs:List (Int×Int)):∀k,(carryF ps vs k).length=vs.length+k
 | 0=>rfl
 | k+1=>by
  have:=carry_len ps vs k
  simp only [carryF,List.length_append,List.length_cons,List.length_nil];omega
theorem lastD_map {ps:List (List Int)} {f:List Int->List Int} (h:ps≠[]):(ps.map f).getLastD []=f (ps.getLastD []):=by
 rw [List.getLastD_eq_getLast?,List.getLastD_eq_getLast?,List.getLast?_map,List.getLast?_eq_some_getLast h];rfl
def spWtd (K:W.Frag):Sp:=fun vs H Q _=>∃(p:Addr) (v x y:Int),vs=[.int v,.ref p]∧SqT K H p [.int x,.int y]∧Frc (x,y)∧Bd 3000 v∧Bd 20000 x∧Bd 3000 y∧
 ∀a b:Int,Frc (a,b)->a * y=v * x * b->b∣y->a.natAbs<=(v * x).natAbs->b.natAbs<=y.natAbs->mkT H Q a b
theorem ok_weighted {P:Program} {w:World} {K:W.Frag} {mg:Str->Option Value} {base:Heap} (T:Tx K mg):FnOk P w K mg base CX0 2 T.a_weighted T.fd_weighted ["weight","fraction"] (spWtd K):=by
 refine T.F_weighted.ok sc_weighted (fun vs H Q E h=>?_) (fun cdv A outer s H vs Q E hr h=>?_)
 ·obtain⟨p,v,x,y,rfl,_⟩:=h
  rfl
 obtain⟨p,v,x,y,rfl,hP,hF,bv,bx,bY,q⟩:=h
 have y1:1<=y:=hF.1
 have hg:Nat.gcd x.natAbs y.natAbs=1:=hF.2
 refine⟨_,((pss_cons (ps_set (i:=2) sc_weighted.nd rfl (Or.inl rfl) (pe_call (FnOk.mono (ok_divisor T) (by decide)) hr rfl T.m_divisor T.F_divisor.kp T.b_divisor .nil pass0 (pa_cons (pv 0) (pa_cons (pe_ix ix_tup (pv 1) pe_int (fun _ _=>rfl)) pa_nil))))
  (pss_one (ps_ret (pe_tup (pa_cons (pe_op op_mulZ (pe_op op_fdivB (pv 0) (pv 2)) (pe_ix ix_tup (pv 1) pe_int (fun _ _=>rfl))) (pa_cons (pe_op op_fdivB (pe_ix ix_tup (pv 1) pe_int (fun _ _=>rfl)) (pv 2)) pa_nil))))))),?_⟩
 k_units
 obtain⟨g,hgg,g0,v',y',e1,e2,hv,hy,y1',c⟩:=wtd (v:=v) y1 hg
 have gs:g.natAbs<=y.natAbs:=by rw [hy,Int.natAbs_mul];exact Nat.le_mul_of_pos_right _ (by omega)
 have bY':y.natAbs < 2 ^ 3000:=bY
 have p1:(2:Nat) ^ 3000<=2 ^ 4000:=Nat.pow_le_pow_right (by decide) (by decide)
 have p2:(2:Nat) ^ 3000<=2 ^ 9000:=Nat.pow_le_pow_right (by decide) (by decide)
 have bv':v'.natAbs<=v.natAbs:=by rw [hv,Int.natAbs_mul];exact Nat.le_mul_of_pos_left _ (Int.natAbs_pos.mpr g0)
 have bV:Bd 3000 v':=Nat.lt_of_le_of_lt bv' bv
 refine⟨_,hP,_,rfl,v,y,rfl,by omega,?_⟩
 rw [hgg]
 refine⟨g,rfl,g0,by omega,_,hP,_,rfl,x,rfl,?_⟩
 rw [e1]
 refine⟨bV.fits bx (by decide),_,hP,_,rfl,y,rfl,?_⟩
 refine⟨g,rfl,g0,by omega,by decide,?_⟩
 rw [e2]
 refine q (v' * x) y' ⟨y1',c⟩ (by rw [hv];(conv=>lhs;rw [hy]);grind) ⟨g,by rw [Int.mul_comm];exact hy⟩ ?_ ?_
 ·rw [Int.natAbs_mul,Int.natAbs_mul];exact Nat.mul_le_mul_right _ bv'
 ·rw [hy,Int.natAbs_mul];exact Nat.le_mul_of_pos_left _ (Int.natAbs_pos.mpr g0)
def spTot (K:W.Frag):Sp:=fun vs H Q _=>∃(p:Addr) (as:List Addr) (fs:List (Int×Int)),vs=[.ref p]∧SqL K H p (as.map V.ref)∧TL K H as fs∧fs.length<=6∧(∀f∈fs,Frc f∧Bd 100000 f.1)∧(∃E:Int,1<=E∧Bd 2900 E∧∀f∈fs,f.2∣E)∧
 ∀x y:Int,Frc (x,y)->(∀M,(∀f∈fs,f.2∣M)->x * M=y * Sm M fs)->∀r H',Same H H'->SqT K H' r [.int x,.int y]->Q (.ref r) H'
theorem ok_total {P:Program} {w:World} {K:W.Frag} {mg:Str->Option Value} {base:Heap} (T:Tx K mg):FnOk P w K mg base CX0 3 T.a_total T.fd_total ["fractions"] (spTot K):=by
 refine T.F_total.ok sc_total (fun vs H Q E h=>?_) (fun cdv A outer s H vs Q E hr h=>?_)
 ·obtain⟨p,as,fs,rfl,_⟩:=h
  rfl
 obtain⟨p,as,fs,rfl,hP,hL,l6,hF0,⟨E0',E1,Eb,Ed⟩,q⟩:=h
 have sub:∀c:Int,c∣E0'->Bd 2900 c:=fun c hc=>Nat.lt_of_le_of_lt (Nat.le_of_dvd (by omega) (Int.natAbs_dvd_natAbs.mpr hc)) Eb
 have hF:∀f∈fs,Frc f∧Bd 100000 f.1∧Bd 2900 f.2∧f.2∣E0':=fun f hf=>⟨(hF0 f hf).1,(hF0 f hf).2,sub _ (Ed f hf),Ed f hf⟩
 refine⟨_,((pss_cons (ps_setCIf (i:=1) rfl (blkok rfl sub_nil fv_nil) (pi_list (pv 0)) (fun _ _ _ _=>(pt_cmpR op_ne (pe_ix (ix_tupK (K:=K) rfl) (pv 0) pe_int (fun _ _=>rfl)) pe_int (nomark _))) (fun _ _ _ _=>(pv 0)) sc_total.nd rfl rfl)
  (pss_cons (ps_if (pt_cmpR op_eq (pe_callB call_len_seq rfl T.z_len bt_len (pa_cons (pv 1) pa_nil)) pe_int (nomark _)) (pss_one (ps_ret (pe_ix ix_list (pv 1) pe_int (fun _ _=>rfl)))) pss_nil)
  (pss_cons (ps_set (i:=2) sc_total.nd rfl (Or.inr rfl) pe_int)
  (pss_cons (ps_for PassesOwn.never rfl (pi_list (pv 1)) (pg_name (i:=3) sc_total.nd rfl (Or.inl rfl)) (pss_one (ps_aug (i:=2) sc_total.nd rfl (Or.inr rfl) (pe_op op_fdivB (pe_ix ix_tup (pv 3) pe_int (fun _ _=>rfl)) (pe_call (FnOk.mono (ok_divisor T) (by decide)) hr rfl T.m_divisor T.F_divisor.kp T.b_divisor .nil pass0 (pa_cons (pv 2) (pa_cons (pe_ix ix_tup (pv 3) pe_int (fun _ _=>rfl)) pa_nil)))) ip_mulZ)))
  (pss_one (ps_ret (pe_call (FnOk.mono (ok_ratio T) (by decide)) hr rfl T.m_ratio T.F_ratio.kp T.b_ratio .nil passF (pa_cons (pe_callB (call_sumL rfl) rfl T.z_sum boot_sum (pa_cons (pe_lcomp rfl (blkok rfl (sub_cons rfl sub_nil) (fv_cons 2 "bottom" (by decide) rfl (Or.inl rfl) (Or.inl rfl) ⟨_,rfl⟩ fv_nil)) (pi_list (pv 1)) (fun _ _ _ _=>(pe_op op_mulZ (pe_ix (ix_tupK (K:=K) rfl) (pv 0) pe_int (fun _ _=>rfl)) (pe_op op_fdivB (pv 1) (pe_ix (ix_tupK (K:=K) rfl) (pv 0) pe_int (fun _ _=>rfl)))))) pa_nil)) (pa_cons (pv 2) pa_nil)))))))))),?_⟩
 k_units
 refine⟨⟨_,hP⟩,fun D nD=>?_⟩
 obtain⟨Pc,hPc⟩:∃Pc:Nat->Hp->Prop,∀j Hx,Pc j Hx↔∃bs:List Addr,Hx D=some (.lst (bs.map V.ref))∧TL K Hx bs ((fs.take j).filter fun f=>f.1 != 0)∧Same H Hx:=⟨_,fun _ _=>Iff.rfl⟩
 refine cl_listIf (xs:=as.map V.ref) Pc ((hPc _ _).mpr ⟨[],upd_same,TL.nil _ _,same_upd nD _⟩) (fun i Hx _ z=>by obtain⟨_,_,_,z⟩:=(hPc i Hx).mp z;exact z.seq hP) ?_ ?_
 ·intro j v Hx hv hc
  obtain⟨bs,k1,k2,k4⟩:=(hPc _ _).mp hc
  obtain⟨a',f,rfl,ha,hf,hA⟩:=hL.nth hv
  have lb:bs.length<=6:=by rw [k2.len];exact Nat.le_trans (List.length_filter_le _ _) (Nat.le_trans (List.length_take_le' _ _) l6)
  (iterate 3 (k_units;(try simp only [bst]));k_units)
  refine⟨_,k4.seqT hA,_,rfl,?_⟩
  k_units
  have et:fs.take (j+1)=fs.take j++[f]:=by rw [List.take_succ,hf];rfl
  refine ite2 (fun h=>⟨_,k1,by rw [List.length_map];exact small1000 (by omega),(hPc _ _).mpr ⟨bs++[a'],by rw [upd_same];simp,?_,k4.more nD⟩⟩) (fun h=>(hPc _ _).mpr ⟨bs,k1,?_,k4⟩)
  ·rw [et,List.filter_append,List.filter_cons_of_pos (by simpa using h)]
   exact TL.upd (TL.snoc k2 (k4.seqT hA)) k1
  ·rw [et,List.filter_append,List.filter_cons_of_neg (by simpa using h)]
   simpa using k2
 intro G1 hc
 obtain⟨bs,eD,lv,s1⟩:=(hPc _ _).mp hc
 rw [List.length_map,hL.len,List.take_length] at lv
 have hlv:∀f∈fs.filter (fun f=>f.1 != 0),Frc f∧Bd 100000 f.1∧Bd 2900 f.2∧f.2∣E0':=fun f hf=>hF f ((List.mem_filter.mp hf).1)
 have ll:(fs.filter fun f=>f.1 != 0).length<=6:=Nat.le_trans (List.length_filter_le _ _) l6
 have sl:∀M,Sm M (fs.filter fun f=>f.1 != 0)=Sm M fs:=fun M=>Sm_live M fs
 have dl:∀M,(∀f∈fs,f.2∣M)->∀f∈fs.filter (fun f=>f.1 != 0),f.2∣M:=fun M h f hf=>h f ((List.mem_filter.mp hf).1)
 generalize (fs.filter fun f=>f.1 != 0)=gs at lv hlv ll sl dl
 refine⟨D,rfl,_,.inl (SqL.of eD),?_⟩
 rw [List.length_map,lv.len]
 refine ite2 (fun h=>?_) (fun h=>?_)
 ·obtain⟨f,rfl⟩:=List.length_eq_one_iff.mp (show gs.length=1 by omega)
  obtain⟨b,rfl⟩:=List.length_eq_one_iff.mp (show bs.length=1 by rw [lv.len];rfl)
  have hf:=hlv f (by simp)
  refine⟨D,rfl,_,SqL.of eD,_,rfl,q f.1 f.2 hf.1 (fun M hM=>?_) b _ s1 (lv.get 0 b f rfl rfl)⟩
  rw [← sl M]
  simp only [Sm]
  obtain⟨c,rfl⟩:=dl M hM f (by simp)
  rw [Int.mul_fdiv_cancel_left c (by have:=hf.1.1;omega)];grind
 refine⟨D,rfl,⟨_,SqL.of eD⟩,?_⟩
 obtain⟨Pv,hPv⟩:∃Pv:Nat->L2.St->Hp->Prop,∀i σ Hx,Pv i σ Hx↔∃(bo:Int) (r3:Option V),σ=[some (V.ref p),some (V.ref D),some (V.int bo),r3]∧Hx=G1∧1<=bo∧(∀f∈gs.take i,f.2∣bo)∧bo∣E0':=⟨_,fun _ _ _=>Iff.rfl⟩
 refine lp_list (xs:=bs.map V.ref) Pv ((hPv _ _ _).mpr ⟨1,_,rfl,rfl,by decide,by simp,Int.one_dvd _⟩) (fun i σ Hx _ z=>by obtain⟨_,_,_,rfl,_⟩:=(hPv i σ Hx).mp z;exact SqL.of eD) ?_ ?_
 ·intro i v σ Hx hv hp
  obtain⟨bo,r3,rfl,rfl,b1,hd,bb⟩:=(hPv _ _ _).mp hp
  obtain⟨a',f,rfl,ha,hf,hA⟩:=lv.nth hv
  have hi:=(List.getElem?_eq_some_iff.mp hf).1
  have ff:=hlv f (List.mem_of_getElem? hf)
  obtain⟨g,hg,g0,gl,c1,c2,c3,c4⟩:=lcm_step b1 ff.1.1
  have b4:f.2.natAbs < 2 ^ 2900:=ff.2.2.1
  have p1:(2:Nat) ^ 2900<=2 ^ 4000:=Nat.pow_le_pow_right (by decide) (by decide)
  have p2:(2:Nat) ^ 2900<=2 ^ 9000:=Nat.pow_le_pow_right (by decide) (by decide)
  have bq:Bd 2900 (f.2.fdiv g):=Nat.lt_of_le_of_lt c4 ff.2.2.1
  have c5:=lcm_in b1 ff.1.1 bb ff.2.2.2
  rw [hg] at c5
  k_units
  refine⟨_,hA,_,rfl,_,hA,_,rfl,bo,f.2,rfl,by omega,?_⟩
  rw [hg]
  refine⟨_,rfl,g,rfl,g0,by omega,(sub _ bb).fits bq (by omega),(hPv _ _ _).mpr ⟨_,_,rfl,rfl,c1,fun f' hf'=>?_,c5⟩⟩
  rw [List.take_succ,hf] at hf'
  rcases List.mem_append.mp hf' with z | z
  ·exact Int.dvd_trans (hd f' z) c2
  ·rw [show f'=f by simpa using z];exact c3
 ·intro σ Hx hp
  obtain⟨bo,r3,rfl,rfl,b1,hd,bb⟩:=(hPv _ _ _).mp hp
  rw [List.length_map,lv.len,List.take_length] at hd
  k_units
  refine⟨⟨_,SqL.of eD⟩,fun D2 nD2=>?_⟩
  obtain⟨Pd,hPd⟩:∃Pd:Nat->Hp->Prop,∀j Hz,Pd j Hz↔Hz D2=some (.lst (((gs.take j).map fun f=>f.1 * bo.fdiv f.2).map V.int))∧Same Hx Hz:=⟨_,fun _ _=>Iff.rfl⟩
  refine cl_list (xs:=bs.map V.ref) Pd ((hPd _ _).mpr ⟨by rw [upd_same];rfl,same_upd nD2 _⟩) (fun i Hz _ z=>SqL.of (((hPd i Hz).mp z).2 _ _ eD)) ?_ ?_
  ·intro j v Hz hv hc
   obtain⟨k1,k2⟩:=(hPd _ _).mp hc
   obtain⟨a',f,rfl,ha,hf,hA⟩:=lv.nth hv
   have hj:=(List.getElem?_eq_some_iff.mp hf).1
   have ff:=hlv f (List.mem_of_getElem? hf)
   have b4:f.2.natAbs < 2 ^ 2900:=ff.2.2.1
   have p2:(2:Nat) ^ 2900<=2 ^ 9000:=Nat.pow_le_pow_right (by decide) (by decide)
   have f1:=ff.1.1
   have bq:Bd 2900 (bo.fdiv f.2):=by
    obtain⟨c,hc⟩:=hd f (List.mem_of_getElem? hf)
    rw [hc,Int.mul_fdiv_cancel_left c (by omega)]
    exact sub c (Int.dvd_trans ⟨f.2,by rw [hc,Int.mul_comm]⟩ bb)
   (iterate 3 (k_units;(try simp only [bst,Option.getD_some]));k_units)
   refine⟨_,k2.seqT hA,_,rfl,_,k2.seqT hA,_,rfl,f.2,rfl,by omega,by omega,f.1,rfl,ff.2.1.fits bq (by decide),_,k1,by rw [List.length_map,List.length_map,List.length_take];exact small1000 (by omega),(hPd _ _).mpr ⟨?_,k2.more nD2⟩⟩
   rw [upd_same,List.take_succ,hf];simp
  intro H3 hc
  obtain⟨k1,k2⟩:=(hPd _ _).mp hc
  rw [List.length_map,lv.len,List.take_length] at k1
  refine⟨D2,rfl,_,SqL.of k1,?_⟩
  rw [Sm_map]
  refine⟨_,_,rfl,(sub _ bb).mono (by omega),.inl ⟨by omega,fun x y y1 cg e _ _ r nr=>?_⟩⟩
  refine q x y ⟨y1,cg⟩ (fun M hM=>?_) r _ (s1.trans (k2.trans (same_upd nr _))) (SqT.of upd_same)
  rw [← sl M]
  exact tot_of b1 (fun f hf=>⟨(hlv f hf).1.1,hd f hf⟩) (by rw [e,Int.mul_comm]) M (dl M hM)
def spRSum (K:W.Frag):Sp:=fun vs H Q _=>∃(R Vp:Addr) (as bs:List Addr) (ps:List (List Int)) (fs:List (Int×Int)) (n:Nat),vs=[.ref R,.ref Vp,.int n]∧SqL K H R (as.map V.ref)∧LL K H as ps∧SqL K H Vp (bs.map V.ref)∧TL K H bs fs∧ps.length<=6∧n<=fs.length∧n<=500∧(∀p∈ps,p.length<=64∧∀x∈p,Bd 1300 x)∧Good fs∧
 ∀x y:Int,Frc (x,y)->(∀M,(∀f∈(fs.drop n).take ps.length,f.2∣M)->x * M=y * Wm M ((ps.map (val (n:Int))).zip ((fs.drop n).take ps.length)))->∀r H',Same H H'->SqT K H' r [.int x,.int y]->Q (.ref r) H'
theorem ok_rule_sum {P:Program} {w:World} {K:W.Frag} {mg:Str->Option Value} {base:Heap} (T:Tx K mg):FnOk P w K mg base CX0 4 T.a_rule_sum T.fd_rule_sum ["rule","values","n"] (spRSum K):=by
 refine T.F_rule_sum.ok sc_rule_sum (fun vs H Q E h=>?_) (fun cdv A outer s H vs Q E hr h=>?_)
 ·obtain⟨R,Vp,as,bs,ps,fs,n,rfl,_⟩:=h
  rfl
 obtain⟨R,Vp,as,bs,ps,fs,n,rfl,hR,hL,hV,hT,l6,nf,n5,hp,hf,q⟩:=h
 refine⟨_,((pss_cons (ps_set (i:=3) sc_rule_sum.nd rfl (Or.inl rfl) (pe_slice sl_list (pv 1) (po_some (pv 2)) (po_some (pe_op op_add (pv 2) (pe_callB call_len_seq rfl T.z_len bt_len (pa_cons (pv 0) pa_nil))))))
  (pss_one (ps_ret (pe_call (FnOk.mono (ok_total T) (by decide)) hr rfl T.m_total T.F_total.kp T.b_total .nil pass0 (pa_cons (pe_lcomp2 rfl (blkok2 rfl (sub_cons rfl sub_nil) (fv_cons2 2 "n" rfl (Or.inl rfl) (Or.inl rfl) ⟨_,rfl⟩ fv_nil2)) (pi_zip rfl T.z_zip (pa_cons (pv 0) (pa_cons (pv 3) pa_nil))) (fun _ _ _ _=>(pe_call (FnOk.mono (ok_weighted T) (by decide)) hr rfl T.m_weighted T.F_weighted.kp T.b_weighted .nil pass0 (pa_cons (pe_call (FnOk.mono (ok_poly_value T) (by decide)) hr rfl T.m_poly_value T.F_poly_value.kp T.b_poly_value .nil pass0 (pa_cons (pv 0) (pa_cons (pv 2) pa_nil))) (pa_cons (pv 1) pa_nil))))) pa_nil)))))),?_⟩
 k_units
 refine⟨_,.inl hR,_,hV,fun Aa nA=>?_⟩
 rw [List.length_map,hL.len,cut_some bs n ps.length (by rw [hT.len];exact nf)]
 have w1:=same_upd nA (.lst (((bs.drop n).take ps.length).map V.ref))
 have gA:upd H Aa (.lst (((bs.drop n).take ps.length).map V.ref)) Aa=_:=upd_same
 generalize upd H Aa (.lst (((bs.drop n).take ps.length).map V.ref))=G1 at w1 gA ⊢
 have hC:=(hT.part n ps.length).same w1
 obtain⟨hf1,E0',E1,Eb,Ed⟩:=hf
 have sub:∀c:Int,c∣E0'->Bd 2900 c:=fun c hc=>Nat.lt_of_le_of_lt (Nat.le_of_dvd (by omega) (Int.natAbs_dvd_natAbs.mpr hc)) Eb
 have hcf:∀f∈(fs.drop n).take ps.length,Frc f∧Bd 20000 f.1∧f.2∣E0':=fun f h=>⟨(hf1 f (List.mem_of_mem_drop (List.mem_of_mem_take h))).1,(hf1 f (List.mem_of_mem_drop (List.mem_of_mem_take h))).2,Ed f (List.mem_of_mem_drop (List.mem_of_mem_take h))⟩
 have lc:((fs.drop n).take ps.length).length<=ps.length:=by rw [List.length_take];omega
 generalize (fs.drop n).take ps.length=cf at hC hcf lc q
 generalize (bs.drop n).take ps.length=cb at hC gA
 refine⟨_,w1.seq hR,_,SqL.of gA,fun D nD=>?_⟩
 obtain⟨Pz,hPz⟩:∃Pz:Nat->Hp->Prop,∀j Hz,Pz j Hz↔∃(ds:List Addr) (ws:List (Int×Int)),Hz D=some (.lst (ds.map V.ref))∧TL K Hz ds ws∧ws.length=j∧(∀f∈ws,Frc f∧Bd 100000 f.1)∧
  (∀M,(∀f∈cf,f.2∣M)->(∀f∈ws,f.2∣M)∧Sm M ws=Wm M (((ps.map (val (n:Int))).zip cf).take j))∧Same G1 Hz:=⟨_,fun _ _=>Iff.rfl⟩
 refine cl_zip (xs:=as.map V.ref) (ys:=cb.map V.ref) Pz ((hPz _ _).mpr ⟨[],[],upd_same,TL.nil _ _,rfl,by simp,fun M _=>⟨by simp,by simp [Sm,Wm]⟩,same_upd nD _⟩) (fun i Hz _ _ y=>by obtain⟨_,_,_,_,_,_,_,z4⟩:=(hPz i Hz).mp y;exact⟨(w1.trans z4).seq hR,SqL.of (z4 _ _ gA)⟩) ?_ ?_
 ·intro j v1 v2 pt Hz hv1 hv2 hc hpt
  obtain⟨ds,ws,k1,k2,k3,k5,k6,k4⟩:=(hPz _ _).mp hc
  obtain⟨b1,p',rfl,hb1,hp',hB1⟩:=hL.nth hv1
  obtain⟨b2,f,rfl,hb2,hf',hB2⟩:=hC.nth hv2
  have hj:j < ps.length:=(List.getElem?_eq_some_iff.mp hp').1
  have hjc:j < cf.length:=(List.getElem?_eq_some_iff.mp hf').1
  have u1:=same_upd hpt (.tup [V.ref b1,V.ref b2])
  have u2:=k4.trans u1
  have pok:=hp p' (List.mem_of_getElem? hp')
  have fok:=hcf f (List.mem_of_getElem? hf')
  have bn:Bd 9 (n:Int):=Bd.of_lt (m:=501) (by omega) (by decide)
  have bv:Bd 2000 (val (n:Int) p'):=(val_bd bn p' pok.2).mono (by omega)
  have lds:=k2.len
  (iterate 3 (k_units;(try simp only [bst2,Option.getD_some]));k_units)
  refine⟨b1,p',n,1300,9,rfl,(w1.trans u2).seq hB1,pok.1,pok.2,bn,by decide,?_⟩
  refine⟨b2,val (n:Int) p',f.1,f.2,rfl,u2.seqT hB2,fok.1,bv.mono (by decide),fok.2.1,(sub _ fok.2.2).mono (by decide),fun a b Fab e db la lb r nr=>?_⟩
  have u3:=u1.trans (same_upd nr (.tup [V.int a,V.int b]))
  refine⟨_,u3 _ _ k1,by rw [List.length_map];exact small1000 (by omega),(hPz _ _).mpr ⟨ds++[r],ws++[(a,b)],by rw [upd_same];simp,TL.upd (TL.snoc (k2.same u3) (SqT.of upd_same)) (u3 _ _ k1),by simp [k3],fun g hg=>?_,fun M hM=>?_,(k4.trans u3).more nD⟩⟩
  ·rcases List.mem_append.mp hg with z | z
   ·exact k5 g z
   ·rw [List.mem_singleton.mp z]
    exact⟨Fab,(show Bd (2000+20000) a from Nat.lt_of_le_of_lt la (bv.mul fok.2.1)).mono (by decide)⟩
  ·obtain⟨m1,m2⟩:=k6 M hM
   have fM:=hM f (List.mem_of_getElem? hf')
   refine⟨fun g hg=>?_,?_⟩
   ·rcases List.mem_append.mp hg with z | z
    ·exact m1 g z
    ·rw [List.mem_singleton.mp z];exact Int.dvd_trans db fM
   ·have ez:((ps.map (val (n:Int))).zip cf)[j]?=some (val (n:Int) p',f):=by
     rw [List.getElem?_zip_eq_some]
     exact⟨by rw [List.getElem?_map,hp'];rfl,hf'⟩
    rw [Sm_snoc,m2,List.take_succ,ez]
    show _=Wm M (_++[(val (n:Int) p',f)])
    rw [Wm_snoc]
    show _+a * M.fdiv b=_+val (n:Int) p' * f.1 * M.fdiv f.2
    rw [wm_one Fab.1 fok.1.1 e db fM]
 ·intro Hz hc
  obtain⟨ds,ws,k1,k2,k3,k5,k6,k4⟩:=(hPz _ _).mp hc
  have em:min (as.map V.ref).length (cb.map V.ref).length=cf.length:=by rw [List.length_map,List.length_map,hL.len,hC.len];omega
  rw [em] at k3 k6
  refine⟨D,ds,ws,rfl,SqL.of k1,k2,by omega,k5,⟨E0',E1,Eb,(k6 E0' fun f hf=>(hcf f hf).2.2).1⟩,fun x y F e r H' s' hs=>q x y F (fun M hM=>?_) r _ (w1.trans (k4.trans s')) hs⟩
  obtain⟨m1,m2⟩:=k6 M hM
  rw [e M m1,m2,List.take_of_length_le (by rw [List.length_zip,List.length_map];omega)]
def spKeeps (K:W.Frag) (c d:Addr):Sp:=fun vs H Q E=>∃(R Vp:Addr) (as bs:List Addr) (ps:List (List Int)) (fs:List (Int×Int)) (n:Int),vs=[.ref R,.ref Vp,.int n]∧SqL K H R (as.map V.ref)∧LL K H as ps∧SqL K H Vp (bs.map V.ref)∧TL K H bs fs∧ps.length<=6∧fs.length<=500∧(∀p∈ps,p.length<=64∧∀x∈p,Bd 1300 x)∧Good fs∧
 ((¬IsRule ps∧E (.ref c) none H)∨(IsRule ps∧((n < 0∨(fs.length:Int)<=n+((ps.length:Int) - 1))∧E (.ref d) none H∨(∃m:Nat,n=(m:Int)∧(m:Int)+((ps.length:Int) - 1) < (fs.length:Int)∧∃b:Bool,(b=true↔Kp ps fs m)∧∀H',Same H H'->Q (.bl b) H'))))
theorem ok_keeps {P:Program} {w:World} {K:W.Frag} {mg:Str->Option Value} {base:Heap} (T:Tx K mg):FnOk P w K mg base (CXE P w) 5 T.a_keeps T.fd_keeps ["rule","values","n"] (spKeeps K T.c_NoRule T.c_NoPlace):=by
 refine T.F_keeps.okE sc_keeps (fun vs H Q E h=>?_) (fun cdv A outer s H vs Q E hr h=>?_)
 ·obtain⟨R,Vp,as,bs,ps,fs,n,rfl,_⟩:=h
  rfl
 obtain⟨R,Vp,as,bs,ps,fs,n,rfl,hR,hL,hV,hT,l6,l5,hp,hf,q⟩:=h
 refine⟨_,((pss_cons (ps_set (i:=3) sc_keeps.nd rfl (Or.inl rfl) (pe_call (FnOk.mono (ok_order_of T) (by decide)) hr rfl T.m_order_of T.F_order_of.kp T.b_order_of .nil passE (pa_cons (pv 0) pa_nil)))
  (pss_cons (ps_if (PT.nox (PW.pt (pw_or (pt_cmpR op_lt (pv 2) pe_int (nomark _)) (pw_or1 (pt_cmpR op_ge (pe_op op_add (pv 2) (pv 3)) (pe_callB call_len_seq rfl T.z_len bt_len (pa_cons (pv 1) pa_nil)) (nomark _)))))) (pss_one (ps_raise rfl throwE rfl T.mc_NoPlace T.xc_NoPlace (pa_cons pe_str pa_nil))) pss_nil)
  (pss_one (PS.nox (ps_ret (pe_cmpR (op_eqD hr.units) (pe_call (FnOk.mono (ok_rule_sum T) (by decide)) hr rfl T.m_rule_sum T.F_rule_sum.kp T.b_rule_sum .nil pass0 (pa_cons (pv 0) (pa_cons (pv 1) (pa_cons (pv 2) pa_nil)))) (pe_tup (pa_cons pe_int (pa_cons pe_int pa_nil))) (nomark _)))))))),?_⟩
 k_units
 refine⟨R,as,ps,rfl,hR,hL,by omega,?_⟩
 rcases q with ⟨hn,q⟩ | ⟨hI,q⟩
 ·exact .inr ⟨hn,q⟩
 refine .inl ⟨hI,?_⟩
 refine ite2 (fun h=>?_) (fun h=>⟨_,rfl,_,.inl hV,?_⟩)
 ·refine⟨by decide,?_⟩
  rcases q with ⟨_,q⟩ | ⟨m,rfl,_⟩
  ·exact q
  ·omega
 rw [List.length_map,hT.len]
 refine ite2 (fun h2=>⟨by decide,?_⟩) (fun h2=>?_)
 ·rcases q with ⟨_,q⟩ | ⟨m,rfl,hm,_⟩
  ·exact q
  ·omega
 rcases q with ⟨hbad,_⟩ | ⟨m,rfl,hm,b,hb,q⟩
 ·omega
 have lp:0 < ps.length:=List.length_pos_iff.mpr hI.1
 refine⟨R,Vp,as,bs,ps,fs,m,rfl,hR,hL,hV,hT,l6,by omega,by omega,hp,hf,fun x y F e r H1 s1 hs=>⟨by decide,fun p hp1=>?_⟩⟩
 have v1:=same_upd hp1 (.tup [V.int 0,V.int 1])
 refine⟨_,DV.tup (v1.seqT hs) (.cons (.int x) (.cons (.int y) .nil)),_,DV.tup (SqT.of upd_same) (.cons (.int 0) (.cons (.int 1) .nil)),by simp [PyData.canLay0,PyData.canLayAll0],by simp [PyData.canLay0,PyData.canLayAll0],by simp [PyData.depth,PyData.depthAll],?_⟩
 have e0:=e _ (lcm_dvd _)
 have M1:=lcm_pos ((fs.drop m).take ps.length) fun f h=>(hf.1 f (List.mem_of_mem_drop (List.mem_of_mem_take h))).1.1
 have y1:1<=y:=F.1
 have yg:Nat.gcd x.natAbs y.natAbs=1:=F.2
 have kz:(x=0∧y=1)↔Kp ps fs m:=by
  unfold Kp
  constructor
  ·rintro ⟨rfl,rfl⟩
   rw [Int.zero_mul,Int.one_mul] at e0
   exact e0.symm
  ·intro z
   rw [z,Int.mul_zero] at e0
   have x0:x=0:=(Int.mul_eq_zero.mp e0).resolve_right (by omega)
   rw [x0,Int.natAbs_zero,Nat.gcd_zero_left] at yg
   exact⟨x0,by omega⟩
 have ev:PyData.eqv (.tuple [.int x,.int y]) (.tuple [.int 0,.int 1])=b:=by
  rw [Bool.eq_iff_iff,hb,← kz]
  simp [PyData.eqv,PyData.eqvAll]
 rw [ev]
 exact q _ (s1.trans v1)
theorem cut_from (bs:List Addr) (k:Nat):cutV (bs.map V.ref) (some (k:Int)) none=(bs.drop k).map V.ref:=by
 unfold cutV
 rw [HT.sIx_nat,HT.sIx_none,List.length_map,← List.map_drop,List.take_of_length_le (by rw [List.length_map,List.length_drop];omega)]
 congr 1
 by_cases z:k<=bs.length
 ·rw [Nat.min_eq_left z]
 ·rw [Nat.min_eq_right (by omega),List.drop_of_length_le (Nat.le_refl _),List.drop_of_length_le (by omega)]
theorem cut_upto (bs:List Addr) (k:Nat):cutV (bs.map V.ref) none (some (k:Int))=(bs.take k).map V.ref:=by
 unfold cutV
 rw [HT.sIx_nat,HT.sIx_none,List.length_map,List.drop_zero,← List.map_take]
 congr 1
 by_cases z:k<=bs.length
 ·rw [Nat.min_eq_left z];rfl
 ·rw [Nat.min_eq_right (by omega),Nat.sub_zero,List.take_of_length_le (Nat.le_refl _),List.take_of_length_le (by omega)]
structure TH (H:Hp) (as:List Addr) (fs:List (Int×Int)):Prop where
 len:as.length=fs.length
 get:∀(i:Nat) (a:Addr) (f:Int×Int),as[i]?=some a->fs[i]?=some f->H a=some (.tup [.int f.1,.int f.2])
theorem TH.tl {K:W.Frag} {H:Hp} {as:List Addr} {fs:List (Int×Int)} (h:TH H as fs):TL K H as fs:=⟨h.len,fun i a f h1 h2=>SqT.of (h.get i a f h1 h2)⟩
theorem TH.same {H H':Hp} {as:List Addr} {fs:List (Int×Int)} (h:TH H as fs) (s:Same H H'):TH H' as fs:=⟨h.len,fun i a f h1 h2=>s _ _ (h.get i a f h1 h2)⟩
theorem TH.nil (H:Hp):TH H [] []:=⟨rfl,fun i a f h1 _=>by simp at h1⟩
theorem TH.snoc {H:Hp} {as:List Addr} {fs:List (Int×Int)} {a:Addr} {f:Int×Int} (h:TH H as fs) (e:H a=some (.tup [.int f.1,.int f.2])):TH H (as++[a]) (fs++[f]):=by
 refine⟨by simp [h.len],fun i b r h1 h2=>?_⟩
 by_cases z:i < as.length
 ·rw [List.getElem?_append_left z] at h1
  rw [List.getElem?_append_left (by rw [← h.len];exact z)] at h2
  exact h.get i b r h1 h2
 ·rw [List.getElem?_append_right (by omega)] at h1
  rw [List.getElem?_append_right (by rw [← h.len];omega),← h.len] at h2
  have z2:i - as.length=0:=by
   rcases Nat.eq_zero_or_pos (i - as.length) with y | y
   ·exact y
   ·rw [List.getElem?_eq_none (by simp;omega)] at h1;cases h1
  rw [z2] at h1 h2
  simp at h1 h2
  rw [← h1,← h2];exact e
theorem TH.upd {H:Hp} {as:List Addr} {fs:List (Int×Int)} {D:Addr} {ys zs:List V} (h:TH H as fs) (hD:H D=some (.lst ys)):TH (L2.upd H D (.lst zs)) as fs:=by
 refine⟨h.len,fun i a f h1 h2=>?_⟩
 have e:=h.get i a f h1 h2
 rw [upd_ne (fun z=>by rw [z,hD] at e;cases e)];exact e
theorem TH.take {H:Hp} {as:List Addr} {fs:List (Int×Int)} (h:TH H as fs) (k:Nat):TH H (as.take k) (fs.take k):=by
 refine⟨by simp [h.len],fun i a f h1 h2=>?_⟩
 rw [List.getElem?_take] at h1 h2
 split at h1
 ·rename_i z
  rw [if_pos z] at h2
  exact h.get i a f h1 h2
 ·cases h1
theorem part_is {x y b:Int} (hy:1<=y) (hg:Nat.gcd x.natAbs y.natAbs=1) (hb:b≠0) {s:Int} (hs:s=if b < 0 then -((Nat.gcd x.natAbs b.natAbs:Nat):Int) else ((Nat.gcd x.natAbs b.natAbs:Nat):Int)):
  s≠0∧s.natAbs<=b.natAbs∧(b.fdiv s).natAbs<=b.natAbs∧Frc (x.fdiv s,y * b.fdiv s)∧x.fdiv s * (y * b)=x * (y * b.fdiv s):=by
 obtain⟨s0,sa,hx,hb',b1,cg⟩:=gcd_split hb hs
 generalize x.fdiv s=x' at hx cg
 generalize b.fdiv s=b' at hb' b1 cg
 have eb:b.natAbs=s.natAbs * b'.natAbs:=by rw [← Int.natAbs_mul,← hb']
 refine⟨s0,by rw [eb];exact Nat.le_mul_of_pos_right _ (by omega),by rw [eb];exact Nat.le_mul_of_pos_left _ (by omega),⟨?_,?_⟩,?_⟩
 ·have:=Int.mul_le_mul hy b1 (by omega) (by omega)
  show 1<=y * b'
  omega
 ·show Nat.gcd x'.natAbs (y * b').natAbs=1
  rw [Int.natAbs_mul]
  have ex:x.natAbs=s.natAbs * x'.natAbs:=by rw [← Int.natAbs_mul,← hx]
  have h1:Nat.Coprime x'.natAbs y.natAbs:=Nat.Coprime.coprime_dvd_left ⟨s.natAbs,by rw [ex,Nat.mul_comm]⟩ hg
  exact Nat.Coprime.mul_right h1 cg
 ·rw [hx,hb'];grind
def spPart (K:W.Frag):Sp:=fun vs H Q _=>∃(p:Addr) (x y b:Int),vs=[.ref p,.int b]∧SqT K H p [.int x,.int y]∧Frc (x,y)∧b≠0∧Bd 3000 b∧Bd 200000 y∧∀u v:Int,Frc (u,v)->u * (y * b)=x * v->mkT H Q u v
theorem ok_parted {P:Program} {w:World} {K:W.Frag} {mg:Str->Option Value} {base:Heap} (T:Tx K mg):FnOk P w K mg base CX0 2 T.a_parted T.fd_parted ["fraction","number"] (spPart K):=by
 refine T.F_parted.ok sc_parted (fun vs H Q E h=>?_) (fun cdv A outer s H vs Q E hr h=>?_)
 ·obtain⟨p,x,y,b,rfl,_⟩:=h
  rfl
 obtain⟨p,x,y,b,rfl,hP,hF,b0,bb,bY,q⟩:=h
 have y1:1<=y:=hF.1
 have hg:Nat.gcd x.natAbs y.natAbs=1:=hF.2
 refine⟨_,((pss_cons (ps_set (i:=2) sc_parted.nd rfl (Or.inl rfl) (pe_call (FnOk.mono (ok_divisor T) (by decide)) hr rfl T.m_divisor T.F_divisor.kp T.b_divisor .nil pass0 (pa_cons (pe_ix ix_tup (pv 0) pe_int (fun _ _=>rfl)) (pa_cons (pv 1) pa_nil))))
  (pss_mid (ps_if (pt_cmpR op_lt (pv 1) pe_int (nomark _)) (pss_one (ps_set (i:=2) sc_parted.nd rfl (Or.inl rfl) (pe_un un_neg (pv 2)))) pss_nil)
  (pss_one (ps_ret (pe_tup (pa_cons (pe_op op_fdivB (pe_ix ix_tup (pv 0) pe_int (fun _ _=>rfl)) (pv 2)) (pa_cons (pe_op op_mulZ (pe_ix ix_tup (pv 0) pe_int (fun _ _=>rfl)) (pe_op op_fdivB (pv 1) (pv 2))) pa_nil)))))))),?_⟩
 k_units
 refine⟨_,hP,_,rfl,x,b,rfl,Nat.lt_of_lt_of_le bb (Nat.pow_le_pow_right (by decide) (by decide)),?_⟩
 obtain⟨sh,hsh⟩:∃sh:Int,sh=if b < 0 then -((Nat.gcd x.natAbs b.natAbs:Nat):Int) else ((Nat.gcd x.natAbs b.natAbs:Nat):Int):=⟨_,rfl⟩
 obtain⟨M,hM⟩:∃M:L2.St->Hp->Prop,∀σ Hx,M σ Hx↔σ=[some (V.ref p),some (V.int b),some (V.int sh)]∧Hx=H:=⟨_,fun _ _=>Iff.rfl⟩
 refine mid_of M ?_ ?_
 ·k_units
  exact ite2 (fun h=>(hM _ _).mpr ⟨by rw [hsh,if_pos h],rfl⟩) (fun h=>(hM _ _).mpr ⟨by rw [hsh,if_neg h],rfl⟩)
 intro σ Hx hm
 obtain⟨rfl,rfl⟩:=(hM _ _).mp hm
 obtain⟨s0,sb,sq,F,e⟩:=part_is y1 hg b0 hsh
 have big:sh.natAbs < 2 ^ 9000:=Nat.lt_of_le_of_lt sb (Nat.lt_of_lt_of_le bb (Nat.pow_le_pow_right (by decide) (by decide)))
 have bq:Bd 3000 (b.fdiv sh):=Nat.lt_of_le_of_lt sq bb
 k_units
 refine⟨_,hP,_,rfl,x,rfl,s0,big,_,hP,_,rfl,s0,big,y,rfl,bY.fits bq (by decide),by decide,fun r nr=>?_⟩
 exact q _ _ F e r nr
def spNext (K:W.Frag):Sp:=fun vs H Q _=>∃(R Vp:Addr) (as bs:List Addr) (ps:List (List Int)) (fs:List (Int×Int)),vs=[.ref R,.ref Vp]∧SqL K H R (as.map V.ref)∧LL K H as ps∧SqL K H Vp (bs.map V.ref)∧TL K H bs fs∧IsRule ps∧ps.length<=6∧ps.length<=fs.length+1∧fs.length<=480∧(∀p∈ps,p.length<=64∧∀x∈p,Bd 1300 x)∧Good fs∧
 val ((fs.length+1 - ps.length:Nat):Int) (ps.getLastD [])≠0∧∀r H',Same H H'->H' r=some (.tup [.int (nextF ps fs).1,.int (nextF ps fs).2])->Q (.ref r) H'
theorem ok_next_value {P:Program} {w:World} {K:W.Frag} {mg:Str->Option Value} {base:Heap} (T:Tx K mg):FnOk P w K mg base CX0 6 T.a_next_value T.fd_next_value ["rule","values"] (spNext K):=by
 refine T.F_next_value.ok sc_next_value (fun vs H Q E h=>?_) (fun cdv A outer s H vs Q E hr h=>?_)
 ·obtain⟨R,Vp,as,bs,ps,fs,rfl,_⟩:=h
  rfl
 obtain⟨R,Vp,as,bs,ps,fs,rfl,hR,hL,hV,hT,hI,l6,lf,l4,hp,hG,hv,q⟩:=h
 refine⟨_,((pss_cons (ps_set (i:=2) sc_next_value.nd rfl (Or.inl rfl) (pe_op op_sub (pe_callB call_len_seq rfl T.z_len bt_len (pa_cons (pv 1) pa_nil)) (pe_call (FnOk.mono (ok_order_of T) (by decide)) hr rfl T.m_order_of T.F_order_of.kp T.b_order_of .nil passF (pa_cons (pv 0) pa_nil))))
  (pss_one (ps_ret (pe_call (FnOk.mono (ok_parted T) (by decide)) hr rfl T.m_parted T.F_parted.kp T.b_parted .nil pass0 (pa_cons (pe_call (FnOk.mono (ok_rule_sum T) (by decide)) hr rfl T.m_rule_sum T.F_rule_sum.kp T.b_rule_sum .nil pass0 (pa_cons (pv 0) (pa_cons (pv 1) (pa_cons (pv 2) pa_nil)))) (pa_cons (pe_un un_neg (pe_call (FnOk.mono (ok_poly_value T) (by decide)) hr rfl T.m_poly_value T.F_poly_value.kp T.b_poly_value .nil pass0 (pa_cons (pe_ix ix_list (pv 0) (pe_un un_neg pe_int) (fun _ _=>rfl)) (pa_cons (pv 2) pa_nil)))) pa_nil))))))),?_⟩
 k_units
 have lp:=List.length_pos_iff.mpr hI.1
 obtain⟨n,hn⟩:∃n,fs.length+1 - ps.length=n:=⟨_,rfl⟩
 rw [hn] at hv
 have hn':n+ps.length=fs.length+1:=by omega
 refine⟨_,.inl hV,R,as,ps,rfl,hR,hL,by omega,.inl ⟨hI,_,rfl,?_⟩⟩
 rw [List.length_map,hT.len,show (fs.length:Int) - ((ps.length:Int) - 1)=(n:Int) by omega]
 have ed:(fs.drop n).take ps.length=fs.drop n:=List.take_of_length_le (by rw [List.length_drop];omega)
 refine⟨R,Vp,as,bs,ps,fs,n,rfl,hR,hL,hV,hT,l6,by omega,by omega,hp,hG,fun x y F e r H1 s1 hs=>?_⟩
 rw [ed] at e
 obtain⟨a',p',at1,_,hp2,hpS⟩:=(hL.same s1).lastAt hI.1
 have el:ps.getLastD []=p':=by rw [List.getLastD_eq_getLast?,hp2];rfl
 have pok:=hp p' (List.mem_of_getLast? hp2)
 rw [el] at hv
 have bn:Bd 9 (n:Int):=Bd.of_lt (m:=501) (by omega) (by decide)
 have bv:Bd 2000 (val (n:Int) p'):=(val_bd bn p' pok.2).mono (by omega)
 obtain⟨E1,e1,e2,e3⟩:=hG.2
 have yE:y∣E1:=by
  have:=e E1 fun f hf=>e3 f (List.mem_of_mem_drop hf)
  exact cop_dvd (b:=x) ⟨Wm E1 ((ps.map (val (n:Int))).zip (fs.drop n)),this⟩ (by rw [Int.gcd_comm];exact F.2)
 have bY:Bd 2900 y:=Nat.lt_of_le_of_lt (Nat.le_of_dvd (by omega) (Int.natAbs_dvd_natAbs.mpr yE)) e2
 refine⟨_,s1.seq hR,_,at1,a',p',n,1300,9,rfl,hpS,pok.1,pok.2,bn,by decide,_,rfl,?_⟩
 refine⟨r,x,y,-(val (n:Int) p'),rfl,hs,F,by omega,bv.neg.mono (by decide),bY.mono (by decide),fun u v Fuv e4 r2 nr2=>?_⟩
 have M1:=lcm_pos (fs.drop n) fun f hf=>(hG.1 f (List.mem_of_mem_drop hf)).1.1
 have key:(u,v)=nextF ps fs:=by
  have en:fs.length - (ps.length - 1)=n:=by omega
  have ee:nextF ps fs=lowF (Wm (lcmL (fs.drop n)) (ws ps fs n)) (-(lcmL (fs.drop n) * val (n:Int) p')):=by unfold nextF;rw [en,el]
  rw [ee]
  have b0:-(lcmL (fs.drop n) * val (n:Int) p')≠0:=by have:=Int.mul_ne_zero (show lcmL (fs.drop n)≠0 by omega) hv;omega
  refine low_uniq Fuv b0 ?_
  have e5:x * lcmL (fs.drop n)=y * Wm (lcmL (fs.drop n)) (ws ps fs n):=e _ (lcm_dvd _)
  generalize Wm (lcmL (fs.drop n)) (ws ps fs n)=W at e5
  generalize lcmL (fs.drop n)=M at e5
  generalize val (n:Int) p'=v0 at e4
  show u * -(M * v0)=W * v
  have y0:y≠0:=by have:=F.1;simp only at this;omega
  have:y * (u * -(M * v0))=y * (W * v):=by
   have a1:y * (u * -(M * v0))=u * (y * -v0) * M:=by grind
   rw [a1,e4]
   have a2:x * v * M=x * M * v:=by grind
   rw [a2,e5];grind
  exact Int.eq_of_mul_eq_mul_left y0 this
 rw [← key] at q
 exact q r2 _ (s1.trans (same_upd nr2 _)) upd_same
structure Cr (ps:List (List Int)) (fs:List (Int×Int)) (m:Nat):Prop where
 I:IsRule ps
 l6:ps.length<=6
 b:∀p∈ps,p.length<=64∧∀x∈p,Bd 200 x
 m60:m<=60
 c1:clr m (ps.getLastD [])=true
 c2:∀j:Nat,j < m->clr j (ps.getLastD [])=false
 need:ps.length+m<=fs.length+1
 g:Good fs
 kp:∀n:Nat,n+ps.length<=fs.length->Kp ps fs n
structure Nd (ps:List (List Int)) (m:Nat):Prop where
 m60:m<=60
 c1:clr m (ps.getLastD [])=true
 c2:∀j:Nat,j < m->clr j (ps.getLastD [])=false
def Vd (ps:List (List Int)) (fs:List (Int×Int)) (k n:Nat):Prop:=(k=0∧¬IsRule ps)∨(k=1∧IsRule ps∧∀j:Nat,j<=60->clr j (ps.getLastD [])=false)∨(∃m,IsRule ps∧Nd ps m∧
 ((k=2∧fs.length+1 < ps.length+m)∨(ps.length+m<=fs.length+1∧((k=3∧n+ps.length<=fs.length∧¬Kp ps fs n∧∀j:Nat,j < n->Kp ps fs j)∨(k=10∧∀j:Nat,j+ps.length<=fs.length->Kp ps fs j)))))
structure Sml (ps:List (List Int)) (fs:List (Int×Int)):Prop where
 l6:ps.length<=6
 l4:fs.length<=480
 b:∀p∈ps,p.length<=64∧∀x∈p,Bd 200 x
 g:Good fs
theorem vd_cr {ps:List (List Int)} {fs:List (Int×Int)} {n:Nat} (s:Sml ps fs) (v:Vd ps fs 10 n):∃m,Cr ps fs m:=by
 rcases v with ⟨z,_⟩ | ⟨z,_⟩ | ⟨m,I,N,⟨z,_⟩ | ⟨h,⟨z,_⟩ | ⟨_,k⟩⟩⟩
 ·omega
 ·omega
 ·omega
 ·omega
 ·exact⟨m,I,s.l6,s.b,N.m60,N.c1,N.c2,h,s.g,k⟩
structure Rf {K:W.Frag} {mg:Str->Option Value} (T:Tx K mg) (E:XK) (k n:Nat) (H':Hp):Prop where
 e0:k=0->E (.ref T.c_NoRule) none H'
 e1:k=1->E (.ref T.c_TooGreat) none H'
 e2:k=2->E (.ref T.c_TooFew) none H'
 e3:k=3->∀d,H' d=some (.xd [(Str.ofString "place",.int (n:Int))])->E (.ref T.c_NotKept) (some d) H'
theorem num_len {n:Nat} (h:n<=600):(Str.ofString (toString (n:Int))).length<=4∧(n:Int).natAbs.log2 < 1920:=by
 constructor
 ·have:∀m:Nat,m < 601->(Str.ofString (toString (m:Int))).length<=4:=by decide +kernel
  exact this n (by omega)
 ·rw [Int.natAbs_natCast]
  exact Nat.lt_of_le_of_lt (Nat.log2_le_self n) (by omega)
def spNk (C:Addr):Sp:=fun vs H Q _=>∃(e:Addr) (n:Nat),vs=[.ref e,.int (n:Int)]∧n<=600∧H e=some (IsNew e C none)∧∀d,H d=none->Q .non (upd (upd H e (IsNew e C (some d))) d (.xd [(Str.ofString "place",.int (n:Int))]))
theorem ok_NotKept___init__ {P:Program} {w:World} {K:W.Frag} {mg:Str->Option Value} {base:Heap} (T:Tx K mg):FnOk P w K mg base CX0 1 T.a_NotKept___init__ T.fd_NotKept___init__ ["self","place"] (spNk T.c_NotKept):=by
 refine T.F_NotKept___init__.ok sc_NotKept___init__ (fun vs H Q E h=>?_) (fun cdv A outer s H vs Q E hr h=>?_)
 ·obtain⟨e,n,rfl,_⟩:=h
  rfl
 obtain⟨e,n,rfl,hn,he,q⟩:=h
 refine⟨_,((pss_cons (ps_expr (pe_binit rfl T.mc_SumError T.xb_SumError T.xi_NotKept (pa_cons (pv 0) (pa_cons (pe_fst (pv 1)) pa_nil))))
  (pss_one (ps_xfld T.xi_NotKept T.xf_NotKept_place (pv 0) (pv 1) rfl)))),?_⟩
 k_units
 obtain⟨l1,l2⟩:=num_len hn
 have l3:∀a b:Str,(a++b).length=a.length+b.length:=fun a b=>Array.size_append
 refine⟨by decide,l2,?_,none,_,rfl,he,he,q⟩
 rw [l3]
 have:(Str.empty++Str.ofString "the rule is not kept at place ").length<=100:=by decide
 rw [sizeLine_eq];omega
def spCheck {K:W.Frag} {mg:Str->Option Value} (T:Tx K mg):Sp:=fun vs H Q E=>∃(R Vp:Addr) (as bs:List Addr) (ps:List (List Int)) (fs:List (Int×Int)) (k n:Nat),vs=[.ref R,.ref Vp]∧SqL K H R (as.map V.ref)∧LL K H as ps∧SqL K H Vp (bs.map V.ref)∧TL K H bs fs∧Sml ps fs∧Vd ps fs k n∧(∀H',Same H H'->Rf T E k n H')∧(k=10->∀H',Same H H'->Q .non H')
theorem ok_check_first {P:Program} {w:World} {K:W.Frag} {mg:Str->Option Value} {base:Heap} (T:Tx K mg):FnOk P w K mg base (CXE P w) 7 T.a_check_first T.fd_check_first ["rule","first"] (spCheck T):=by
 refine T.F_check_first.okE sc_check_first (fun vs H Q E h=>?_) (fun cdv A outer s H vs Q E hr h=>?_)
 ·obtain⟨R,Vp,as,bs,ps,fs,k,n,rfl,_⟩:=h
  rfl
 obtain⟨R,Vp,as,bs,ps,fs,k,n,rfl,hR,hL,hV,hT,S,v,qe,q⟩:=h
 refine⟨_,((pss_cons (ps_set (i:=2) sc_check_first.nd rfl (Or.inl rfl) (pe_call (FnOk.mono (ok_need_of T) (by decide)) hr rfl T.m_need_of T.F_need_of.kp T.b_need_of .nil passE (pa_cons (pv 0) pa_nil)))
  (pss_cons (ps_if (PT.nox (pt_cmpR op_lt (pe_callB call_len_seq rfl T.z_len bt_len (pa_cons (pv 1) pa_nil)) (pv 2) (nomark _))) (pss_one (ps_raise rfl throwE rfl T.mc_TooFew T.xc_TooFew (pa_cons (pe_fst2 (pv 2)) pa_nil))) pss_nil)
  (pss_one (ps_for PassesOwn.leaving rfl (pi_range1 rfl T.z_range (pa_cons (pe_op op_sub (pe_callB call_len_seq rfl T.z_len bt_len (pa_cons (pv 1) pa_nil)) (pe_call (FnOk.mono (ok_order_of T) (by decide)) hr rfl T.m_order_of T.F_order_of.kp T.b_order_of .nil passE (pa_cons (pv 0) pa_nil))) pa_nil)) (pg_name (i:=3) sc_check_first.nd rfl (Or.inl rfl)) (pss_one (ps_if (PT.nox (pt_not (pt_val (pe_call (FnOk.mono (ok_keeps T) (by decide)) hr rfl T.m_keeps T.F_keeps.kp T.b_keeps .nil passF (pa_cons (pv 0) (pa_cons (pv 1) (pa_cons (pv 3) pa_nil))))))) (pss_one (ps_raiseI rfl throwI rfl T.mc_NotKept T.xi_NotKept (FnOk.mono (ok_NotKept___init__ T) (by decide)) hr T.b_NotKept___init__ .nil pass0 (pa_cons (pv 3) pa_nil))) pss_nil))))))),?_⟩
 k_units
 have l6:=S.l6
 have l4:=S.l4
 have l3:∀a b:Str,(a++b).length=a.length+b.length:=fun a b=>Array.size_append
 refine⟨R,as,ps,rfl,hR,hL,by omega,?_⟩
 rcases v with ⟨z,hn⟩ | ⟨z,I,hno⟩ | ⟨m,I,N,v⟩
 ·exact .inl ⟨hn,(qe H fun _ _ e=>e).e0 z⟩
 ·have hlast:ps.getLast?=some (ps.getLastD []):=by rw [List.getLastD_eq_getLast?,List.getLast?_eq_some_getLast I.1];rfl
  have bl:=S.b _ (List.mem_of_getLast? hlast)
  exact .inr ⟨I,_,hlast,bl.1,bl.2,.inr ⟨hno,fun H1 s1=>(qe H1 s1).e1 z⟩⟩
 have hlast:ps.getLast?=some (ps.getLastD []):=by rw [List.getLastD_eq_getLast?,List.getLast?_eq_some_getLast I.1];rfl
 have bl:=S.b _ (List.mem_of_getLast? hlast)
 have lp:=List.length_pos_iff.mpr I.1
 have m60:=N.m60
 refine .inr ⟨I,_,hlast,bl.1,bl.2,.inl ⟨m,N.m60,N.c1,N.c2,fun H1 s1=>⟨_,.inl (s1.seq hV),_,rfl,?_⟩⟩⟩
 rw [List.length_map,hT.len]
 rcases v with ⟨z,hf⟩ | ⟨hf,v⟩
 ·rw [if_pos (by omega),show (ps.length:Int) - 1+(m:Int)=((ps.length - 1+m:Nat):Int) by omega]
  obtain⟨k1,k2⟩:=num_len (n:=ps.length - 1+m) (by omega)
  have z1:(Str.empty++Str.ofString "the rule needs ").length<=100:=by decide
  have z2:(Str.ofString " first ones").length<=100:=by decide
  refine⟨by decide,_,rfl,k2,?_,?_,by decide,(qe H1 s1).e2 z⟩
  ·rw [l3,sizeLine_eq];omega
  ·rw [l3,l3,sizeLine_eq];omega
 rw [if_neg (by omega)]
 refine⟨_,.inl (s1.seq hV),R,as,ps,rfl,s1.seq hR,hL.same s1,by omega,.inl ⟨I,_,rfl,?_⟩⟩
 rw [List.length_map,hT.len]
 obtain⟨c,hc⟩:∃c:Nat,(fs.length:Int) - ((ps.length:Int) - 1)=(c:Int):=⟨fs.length+1 - ps.length,by omega⟩
 rw [hc,Int.toNat_natCast]
 refine⟨by omega,by omega,?_⟩
 have kpj:∀j:Nat,j+ps.length<=fs.length->(k=3->j < n)->Kp ps fs j:=fun j h1 h2=>by
  rcases v with ⟨z,_,_,h3⟩ | ⟨_,h3⟩
  ·exact h3 j (h2 z)
  ·exact h3 j h1
 obtain⟨Pv,hPv⟩:∃Pv:Nat->L2.St->Hp->Prop,∀i σ H',Pv i σ H'↔∃(r2 r3:Option V),σ=[some (V.ref R),some (V.ref Vp),r2,r3]∧Same H H'∧(k=3->i<=n):=⟨_,fun _ _ _=>Iff.rfl⟩
 refine lp_range Pv ((hPv _ _ _).mpr ⟨_,_,rfl,s1,fun _=>Nat.zero_le _⟩) ?_ ?_
 ·intro i σ H' hi hp
  obtain⟨r2,r3,rfl,sP,hin⟩:=(hPv _ _ _).mp hp
  have e1:(0:Int)+(i:Int)=(i:Int):=Int.zero_add _
  (iterate 3 (k_units;(try simp only [e1]));k_units)
  have hb:∀p∈ps,p.length<=64∧∀x∈p,Bd 1300 x:=fun p hp=>⟨(S.b p hp).1,fun x hx=>((S.b p hp).2 x hx).mono (by decide)⟩
  by_cases bad:k=3∧i=n
  ·obtain⟨k3,rfl⟩:=bad
   have nk:¬Kp ps fs i:=by
    rcases v with ⟨_,_,z,_⟩ | ⟨z,_⟩
    ·exact z
    ·omega
   refine⟨R,Vp,as,bs,ps,fs,i,rfl,sP.seq hR,hL.same sP,sP.seq hV,hT.same sP,by omega,by omega,hb,S.g,.inr ⟨I,.inr ⟨i,rfl,by omega,false,⟨fun z=>(nomatch z),fun z=>absurd z nk⟩,fun H2 s2=>⟨false,rfl,?_⟩⟩⟩⟩
   rw [if_pos (by decide)]
   refine⟨by decide,fun e ne=>⟨e,i,rfl,by omega,upd_same,fun d nd=>⟨rfl,some d,?_,?_⟩⟩⟩
   ·have:e≠d:=fun z=>by rw [← z,upd_same] at nd;cases nd
    rw [upd_ne this,upd_same]
   ·have ned:d≠e:=fun z=>by rw [z,upd_same] at nd;cases nd
    have nd2:H2 d=none:=by rw [upd_ne ned] at nd;exact nd
    refine (qe _ fun b o hb=>?_).e3 k3 d ?_
    ·have hb2:=s2 _ _ (sP _ _ hb)
     have n1:b≠e:=fun z=>by rw [z,ne] at hb2;cases hb2
     have n2:b≠d:=fun z=>by rw [z,nd2] at hb2;cases hb2
     unfold del
     rw [if_neg n1,upd_ne n2,upd_ne n1,upd_ne n1];exact hb2
    ·unfold del
     rw [if_neg ned,upd_same]
  ·refine⟨R,Vp,as,bs,ps,fs,i,rfl,sP.seq hR,hL.same sP,sP.seq hV,hT.same sP,by omega,by omega,hb,S.g,.inr ⟨I,.inr ⟨i,rfl,by omega,true,⟨fun _=>kpj i (by omega) (fun z=>by have:=hin z;omega),fun _=>rfl⟩,fun H2 s2=>⟨true,rfl,?_⟩⟩⟩⟩
   rw [if_neg (by decide)]
   exact (hPv _ _ _).mpr ⟨_,_,rfl,sP.trans s2,fun z=>by have:=hin z;omega⟩
 ·intro σ H' hp
  obtain⟨r2,r3,rfl,sP,hin⟩:=(hPv _ _ _).mp hp
  refine q ?_ _ sP
  rcases v with ⟨z,h1,h2,_⟩ | ⟨z,_⟩
  ·have:=hin z;omega
  ·exact z
structure LH (H:Hp) (as:List Addr) (ps:List (List Int)):Prop where
 len:as.length=ps.length
 get:∀(i:Nat) (a:Addr) (p:List Int),as[i]?=some a->ps[i]?=some p->H a=some (.lst (p.map V.int))
theorem LH.ll {K:W.Frag} {H:Hp} {as:List Addr} {ps:List (List Int)} (h:LH H as ps):LL K H as ps:=⟨h.len,fun i a p h1 h2=>SqL.of (h.get i a p h1 h2)⟩
theorem LH.same {H H':Hp} {as:List Addr} {ps:List (List Int)} (h:LH H as ps) (s:Same H H'):LH H' as ps:=⟨h.len,fun i a p h1 h2=>s _ _ (h.get i a p h1 h2)⟩
theorem LH.nil (H:Hp):LH H [] []:=⟨rfl,fun i a p h1 _=>by simp at h1⟩
theorem LH.snoc {H:Hp} {as:List Addr} {ps:List (List Int)} {a:Addr} {p:List Int} (h:LH H as ps) (e:H a=some (.lst (p.map V.int))):LH H (as++[a]) (ps++[p]):=by
 refine⟨by simp [h.len],fun i b r h1 h2=>?_⟩
 by_cases z:i < as.length
 ·rw [List.getElem?_append_left z] at h1
  rw [List.getElem?_append_left (by rw [← h.len];exact z)] at h2
  exact h.get i b r h1 h2
 ·rw [List.getElem?_append_right (by omega)] at h1
  rw [List.getElem?_append_right (by rw [← h.len];omega),← h.len] at h2
  have z2:i - as.length=0:=by
   rcases Nat.eq_zero_or_pos (i - as.length) with y | y
   ·exact y
   ·rw [List.getElem?_eq_none (by simp;omega)] at h1;cases h1
  rw [z2] at h1 h2
  simp at h1 h2
  rw [← h1,← h2];exact e
theorem LH.upd {H:Hp} {as:List Addr} {ps:List (List Int)} {b:Addr} {o:HO} (h:LH H as ps) (n:b∉as):LH (L2.upd H b o) as ps:=⟨h.len,fun i a p h1 h2=>by
 rw [upd_ne (fun z=>n (by rw [← z];exact List.mem_of_getElem? h1))];exact h.get i a p h1 h2⟩
theorem LH.updAt {H:Hp} {as:List Addr} {ps:List (List Int)} {b:Addr} {r:List Int} {k:Nat} (h:LH H as ps) (nd:as.Nodup) (hk:as[k]?=some b):LH (L2.upd H b (.lst (r.map V.int))) as (ps.set k r):=by
 refine⟨by simp [h.len],fun i a p h1 h2=>?_⟩
 by_cases z:k=i
 ·subst z
  have l1:k < as.length:=(List.getElem?_eq_some_iff.mp h1).1
  rw [List.getElem?_set_self (by rw [← h.len];exact l1)] at h2
  rw [hk] at h1
  rw [← Option.some.inj h1,← Option.some.inj h2];exact upd_same
 ·rw [List.getElem?_set_ne z] at h2
  have ne:a≠b:=fun e=>by
   obtain⟨i1,e1⟩:=List.getElem?_eq_some_iff.mp h1
   obtain⟨k1,e2⟩:=List.getElem?_eq_some_iff.mp hk
   exact z ((List.getElem_inj nd).mp (by rw [e1,e2,e]))
  rw [upd_ne ne];exact h.get i a p h1 h2
theorem LH.mem {H:Hp} {as:List Addr} {ps:List (List Int)} (h:LH H as ps) {a:Addr} (ha:a∈as):∃p:List Int,H a=some (.lst (p.map V.int)):=by
 obtain⟨i,hi,e⟩:=List.mem_iff_getElem.mp ha
 have hp:i < ps.length:=by rw [← h.len];exact hi
 exact⟨ps[i],h.get i a ps[i] (by rw [← e];exact List.getElem?_eq_getElem hi) (List.getElem?_eq_getElem hp)⟩
theorem LH.notin {H:Hp} {as:List Addr} {ps:List (List Int)} (h:LH H as ps) {a:Addr} (ha:H a=none):a∉as:=fun z=>by
 obtain⟨p,e⟩:=h.mem z
 rw [ha] at e;cases e
def newLL (H:Hp) (Q:VK) (ds:List (List Int)):Prop:=∀(D:Addr) (bs:List Addr) H',Same H H'->H D=none->H' D=some (.lst (bs.map V.ref))->LH H' bs ds->(∀b∈bs,H b=none)->D∉bs->bs.Nodup->Q (.ref D) H'
theorem cl_ints {K:W.Frag} {a:Addr} {xs:List Int} {g:Int->Int} {fv:List (Nat×Str)} {te:TE} {Q:VK} {σ:L2.St} {H1:Hp} {D:Addr} (nD:H1 D=none) (hA:SqL K H1 a (xs.map V.int)) (hl:xs.length<=900)
  (hs:∀x∈xs,∀Hx R,Same H1 Hx->R (.int (g x)) Hx->te (bst fv σ (some (V.int x))) Hx R) (he:newL H1 Q ((xs.map g).map V.int)):CLoop (Itl K a) fv te Q σ H1 D:=by
 obtain⟨Pc,hPc⟩:∃Pc:Nat->Hp->Prop,∀i H',Pc i H'↔H' D=some (.lst (((xs.take i).map g).map V.int))∧Same H1 H':=⟨_,fun _ _=>Iff.rfl⟩
 refine cl_list (xs:=xs.map V.int) Pc ((hPc _ _).mpr ⟨by rw [upd_same];rfl,same_upd nD _⟩) (fun i Hx _ z=>((hPc i Hx).mp z).2.seq hA) ?_ ?_
 ·intro i v Hx hv hc
  obtain⟨k1,k2⟩:=(hPc _ _).mp hc
  have hi:i < xs.length:=by have:=(List.getElem?_eq_some_iff.mp hv).1;rw [List.length_map] at this;exact this
  rw [List.getElem?_map,List.getElem?_eq_getElem hi] at hv
  obtain rfl:V.int xs[i]=v:=Option.some.inj hv
  have et:xs.take (i+1)=xs.take i++[xs[i]]:=by rw [List.take_succ,List.getElem?_eq_getElem hi];rfl
  refine hs _ (List.getElem_mem hi) Hx _ k2 ⟨_,k1,small1000 (by simp;omega),(hPc _ _).mpr ⟨?_,k2.more nD⟩⟩
  rw [upd_same,et,List.map_append,List.map_append];rfl
 intro H' hc
 obtain⟨k1,k2⟩:=(hPc _ _).mp hc
 rw [List.length_map,List.take_length] at k1
 exact he D H' k2 nD k1
theorem cl_ll {K:W.Frag} {a:Addr} {as:List Addr} {ps ds:List (List Int)} {fv:List (Nat×Str)} {te:TE} {Q:VK} {σ:L2.St} {H1:Hp} {D:Addr} (nD:H1 D=none) (hA:SqL K H1 a (as.map V.ref)) (hL:LL K H1 as ps) (hd:ds.length=ps.length) (hl:ps.length<=900)
  (hs:∀(i:Nat) (b:Addr) (p d:List Int) (Hx:Hp) (R:VK),ps[i]?=some p->ds[i]?=some d->Same H1 Hx->SqL K Hx b (p.map V.int)->newL Hx R (d.map V.int)->te (bst fv σ (some (V.ref b))) Hx R) (he:newLL H1 Q ds):CLoop (Itl K a) fv te Q σ H1 D:=by
 obtain⟨Pc,hPc⟩:∃Pc:Nat->Hp->Prop,∀j Hx,Pc j Hx↔∃bs:List Addr,Hx D=some (.lst (bs.map V.ref))∧LH Hx bs (ds.take j)∧D∉bs∧bs.Nodup∧(∀b∈bs,H1 b=none)∧Same H1 Hx:=⟨_,fun _ _=>Iff.rfl⟩
 refine cl_list (xs:=as.map V.ref) Pc ((hPc _ _).mpr ⟨[],upd_same,LH.nil _,by simp,List.nodup_nil,by simp,same_upd nD _⟩) (fun i Hx _ z=>by obtain⟨_,_,_,_,_,_,z⟩:=(hPc i Hx).mp z;exact z.seq hA) ?_ ?_
 ·intro j v Hx hv hc
  obtain⟨bs,k1,k2,k3,k4,k5,k6⟩:=(hPc _ _).mp hc
  obtain⟨b,p,rfl,hb,hp,hB⟩:=hL.nth hv
  have hj:j < ps.length:=(List.getElem?_eq_some_iff.mp hp).1
  have hdj:ds[j]?=some ds[j]:=List.getElem?_eq_getElem (by omega)
  refine hs j b p _ Hx _ hp hdj k6 (k6.seq hB) fun F H2 s2 nF eF=>?_
  have lk:=k2.len
  rw [List.length_take] at lk
  have nFD:F≠D:=fun z=>by rw [z,k1] at nF;cases nF
  have nFb:F∉bs:=k2.notin nF
  have m1:D∉bs++[F]:=fun z=>by
   rcases List.mem_append.mp z with z | z
   ·exact k3 z
   ·exact nFD (List.mem_singleton.mp z).symm
  refine⟨_,s2 _ _ k1,by rw [List.length_map];exact small1000 (by omega),(hPc _ _).mpr ⟨bs++[F],by rw [upd_same];simp,?_,m1,?_,?_,(k6.trans s2).more nD⟩⟩
  ·have e:ds.take (j+1)=ds.take j++[ds[j]]:=by rw [List.take_succ,hdj];rfl
   rw [e]
   exact ((k2.same s2).snoc eF).upd m1
  ·exact List.nodup_append.mpr ⟨k4,by simp,fun x hx y hy z=>nFb (by rw [List.mem_singleton.mp hy] at z;rw [← z];exact hx)⟩
  ·intro x hx
   rcases List.mem_append.mp hx with z | z
   ·exact k5 x z
   ·rw [List.mem_singleton.mp z];exact k6.free nF
 ·intro H' hc
  obtain⟨bs,k1,k2,k3,k4,k5,k6⟩:=(hPc _ _).mp hc
  rw [List.length_map,hL.len,← hd,List.take_length] at k2
  exact he D bs H' k6 nD k1 k2 k5 k3 k4
theorem cl_rngP {n:Nat} {Pd:Int->Prop} {fv:List (Nat×Str)} {te:TE} {Q:VK} {σ:L2.St} {H1:Hp} {D:Addr} (nD:H1 D=none) (hn:n<=900)
  (hs:∀i,i < n->∀Hx R,Same H1 Hx->(∀v,Pd v->R (.int v) Hx)->te (bst fv σ (some (V.int (0+(i:Int))))) Hx R) (he:∀ys:List Int,ys.length=n->(∀y∈ys,Pd y)->newL H1 Q (ys.map V.int)):CLoop (Itr 0 n) fv te Q σ H1 D:=by
 obtain⟨Pc,hPc⟩:∃Pc:Nat->Hp->Prop,∀i H',Pc i H'↔∃ys:List Int,ys.length=i∧(∀y∈ys,Pd y)∧H' D=some (.lst (ys.map V.int))∧Same H1 H':=⟨_,fun _ _=>Iff.rfl⟩
 refine cl_range Pc ((hPc _ _).mpr ⟨[],rfl,by simp,upd_same,same_upd nD _⟩) ?_ ?_
 ·intro i H' hi hc
  obtain⟨ys,hy,hb,h1,h2⟩:=(hPc _ _).mp hc
  refine hs i hi H' _ h2 fun v hv=>⟨_,h1,by rw [List.length_map];exact small1000 (by omega),(hPc _ _).mpr ⟨ys++[v],by simp [hy],fun y hy'=>?_,by rw [upd_same];simp,h2.more nD⟩⟩
  rcases List.mem_append.mp hy' with z | z
  ·exact hb y z
  ·rw [List.mem_singleton.mp z];exact hv
 ·intro H' hc
  obtain⟨ys,hy,hb,h1,h2⟩:=(hPc _ _).mp hc
  exact he ys hy hb D H' h2 nD h1
def rowF (R L:Addr):List (Str×V):=[(Str.ofString "rule",.ref R),(Str.ofString "known",.ref L)]
theorem SqL.updI {K:W.Frag} {H:Hp} {a x C dx:Addr} {xs:List V} {fs:List (Str×V)} {o:HO} (h:SqL K H a xs) (e:H x=some (.ins C dx fs)):SqL K (L2.upd H x o) a xs:=by
 rcases h with (h | ⟨u,h⟩) | h
 ·exact .inl (.inl (by rw [upd_ne (ne_of h e (fun z=>nomatch z))];exact h))
 ·exact .inl (.inr ⟨u,by rw [upd_ne (ne_of h e (fun z=>nomatch z))];exact h⟩)
 ·exact .inr h
theorem LH.updI {H:Hp} {as:List Addr} {ps:List (List Int)} {x C dx:Addr} {fs:List (Str×V)} {o:HO} (h:LH H as ps) (e:H x=some (.ins C dx fs)):LH (L2.upd H x o) as ps:=⟨h.len,fun i a p h1 h2=>by
 have z:=h.get i a p h1 h2
 rw [upd_ne (ne_of z e (fun z=>nomatch z))];exact z⟩
theorem TH.updI {H:Hp} {as:List Addr} {gs:List (Int×Int)} {x C dx:Addr} {fs:List (Str×V)} {o:HO} (h:TH H as gs) (e:H x=some (.ins C dx fs)):TH (L2.upd H x o) as gs:=⟨h.len,fun i a p h1 h2=>by
 have z:=h.get i a p h1 h2
 rw [upd_ne (ne_of z e (fun z=>nomatch z))];exact z⟩
def spInit {K:W.Frag} {mg:Str->Option Value} (T:Tx K mg) (C:Addr):Sp:=fun vs H Q E=>∃(x dx R Vp:Addr) (as bs:List Addr) (ps:List (List Int)) (fs:List (Int×Int)) (k n:Nat),vs=[.ref x,.ref R,.ref Vp]∧H x=some (.ins C dx [])∧SqL K H R (as.map V.ref)∧LL K H as ps∧SqL K H Vp (bs.map V.ref)∧TH H bs fs∧Sml ps fs∧Vd ps fs k n∧(∀H',(∀b o,b≠x->H b=some o->H' b=some o)->Rf T E k n H')∧
 (k=10->∀(R' L:Addr) (as':List Addr) (H':Hp),(∀b o,b≠x->H b=some o->H' b=some o)->H R'=none->H L=none->R'≠L->(∀b∈as',H b=none)->R'∉as'->L∉as'->as'.Nodup->H' x=some (.ins C dx (rowF R' L))->H' R'=some (.lst (as'.map V.ref))->LH H' as' ps->H' L=some (.lst (bs.map V.ref))->Q .non H')
theorem ok_Row___init__ {P:Program} {w:World} {K:W.Frag} {mg:Str->Option Value} {base:Heap} (T:Tx K mg):FnOk P w K mg base (CXE P w) 8 T.a_Row___init__ T.fd_Row___init__ ["self","rule","first"] (spInit T T.c_Row):=by
 refine T.F_Row___init__.okE sc_Row___init__ (fun vs H Q E h=>?_) (fun cdv A outer s H vs Q E hr h=>?_)
 ·obtain⟨x,dx,R,Vp,as,bs,ps,fs,k,n,rfl,_⟩:=h
  rfl
 obtain⟨x,dx,R,Vp,as,bs,ps,fs,k,n,rfl,hx,hR,hL,hV,hT,C,v,qe,q⟩:=h
 refine⟨_,((pss_cons (PS.nox (ps_fld (pv 0) (pe_lcomp rfl (blkok rfl sub_nil fv_nil) (pi_list (pv 1)) (fun _ _ _ _=>(pe_callTy (call_list_ofK (K:=K) rfl) rfl T.z_list bt_list (pa_cons (pv 0) pa_nil)))) rfl))
  (pss_cons (PS.nox (ps_fld (pv 0) (pe_callTy call_list_of rfl T.z_list bt_list (pa_cons (pv 2) pa_nil)) rfl))
  (pss_one (ps_expr (pe_call (FnOk.mono (ok_check_first T) (by decide)) hr rfl T.m_check_first T.F_check_first.kp T.b_check_first .nil passE (pa_cons (pe_fld (pv 0) rfl) (pa_cons (pe_fld (pv 0) rfl) pa_nil)))))))),?_⟩
 dsimp only [a_seq]
 k_typeOf
 have l6:=C.l6
 refine⟨⟨_,hR⟩,fun D nD=>cl_ll (ps:=ps) (ds:=ps) nD hR hL rfl (by omega) (fun i b p d Hx R' hp hd sx hb hR'=>?_) (fun F cs H1 s1 nF eF lc nc nin nd=>?_)⟩
 ·have e:d=p:=by rw [hp] at hd;exact (Option.some.inj hd).symm
  subst e
  (iterate 3 (k_units;(try simp only [bst]));k_units)
  exact⟨_,.inl hb,fun l hl=>hR' l _ (same_upd hl _) hl upd_same⟩
 have ex1:=s1 _ _ hx
 have nFx:F≠x:=fun z=>by rw [z,hx] at nF;cases nF
 refine⟨T.c_Row,dx,[],ex1,T.cl_Row,T.na_Row_rule,by decide,?_⟩
 have ex2:upd H1 x (.ins T.c_Row dx (putF "rule" (.ref F) [])) x=some (.ins T.c_Row dx [("rule",.ref F)]):=upd_same
 have eF2:upd H1 x (.ins T.c_Row dx (putF "rule" (.ref F) [])) F=some (.lst (cs.map V.ref)):=by rw [upd_ne nFx];exact eF
 have lc2:=lc.updI (o:=.ins T.c_Row dx (putF "rule" (.ref F) [])) ex1
 have hV2:=SqL.updI (o:=.ins T.c_Row dx (putF "rule" (.ref F) [])) (s1.seq hV) ex1
 have hT2:=(hT.same s1).updI (o:=.ins T.c_Row dx (putF "rule" (.ref F) [])) ex1
 have k2:∀b o,b≠x->H b=some o->upd H1 x (.ins T.c_Row dx (putF "rule" (.ref F) [])) b=some o:=fun b o hb e=>by rw [upd_ne hb];exact s1 _ _ e
 have n2:∀b,upd H1 x (.ins T.c_Row dx (putF "rule" (.ref F) [])) b=none->H b=none:=fun b e=>by
  cases z:H b with
  | none=>rfl
  | some o=>
   by_cases hb:b=x
   ·rw [hb,upd_same] at e;cases e
   ·rw [k2 b o hb z] at e;cases e
 generalize upd H1 x (.ins T.c_Row dx (putF "rule" (.ref F) []))=G2 at ex2 eF2 lc2 hV2 hT2 k2 n2 ⊢
 dsimp only [a_seq]
 k_typeOf
 refine⟨_,.inl hV2,fun L nL=>?_⟩
 have uL:=same_upd nL (.lst (bs.map V.ref))
 have ex3:=uL _ _ ex2
 refine⟨T.c_Row,dx,_,ex3,T.cl_Row,T.na_Row_known,by show 1 < 1000;decide,?_⟩
 have nL0:=n2 L nL
 have nLx:L≠x:=fun z=>by rw [z,ex2] at nL;cases nL
 have nFL:F≠L:=fun z=>by rw [← z,eF2] at nL;cases nL
 have pf:putF "known" (.ref L) [("rule",V.ref F)]=rowF F L:=rfl
 rw [pf]
 have ex4:upd (upd G2 L (.lst (bs.map V.ref))) x (.ins T.c_Row dx (rowF F L)) x=some (.ins T.c_Row dx (rowF F L)):=upd_same
 have eF4:upd (upd G2 L (.lst (bs.map V.ref))) x (.ins T.c_Row dx (rowF F L)) F=some (.lst (cs.map V.ref)):=by rw [upd_ne nFx];exact uL _ _ eF2
 have eL4:upd (upd G2 L (.lst (bs.map V.ref))) x (.ins T.c_Row dx (rowF F L)) L=some (.lst (bs.map V.ref)):=by rw [upd_ne nLx];exact upd_same
 have lc4:=(lc2.same uL).updI (o:=.ins T.c_Row dx (rowF F L)) ex3
 have hT4:=(hT2.same uL).updI (o:=.ins T.c_Row dx (rowF F L)) ex3
 have k4:∀b o,b≠x->H b=some o->upd (upd G2 L (.lst (bs.map V.ref))) x (.ins T.c_Row dx (rowF F L)) b=some o:=fun b o hb e=>by rw [upd_ne hb];exact uL _ _ (k2 b o hb e)
 generalize upd (upd G2 L (.lst (bs.map V.ref))) x (.ins T.c_Row dx (rowF F L))=G4 at ex4 eF4 eL4 lc4 hT4 k4 ⊢
 refine⟨T.c_Row,dx,_,ex4,T.cl_Row,T.na_Row_rule,_,rfl,T.c_Row,dx,_,ex4,T.cl_Row,T.na_Row_known,_,rfl,F,L,cs,bs,ps,fs,k,n,rfl,SqL.of eF4,lc4.ll,SqL.of eL4,hT4.tl,C,v,fun H5 s5=>qe H5 fun b o hb e=>s5 _ _ (k4 b o hb e),fun hk H5 s5=>?_⟩
 exact q hk F L cs H5 (fun b o hb e=>s5 _ _ (k4 b o hb e)) nF nL0 nFL nc nin (lc2.notin nL) nd (s5 _ _ ex4) (s5 _ _ eF4) (lc4.same s5) (s5 _ _ eL4)
def spAt (K:W.Frag) (C D:Addr):Sp:=fun vs H Q E=>∃(x dx R L:Addr) (n:Int) (as cs:List Addr) (ps:List (List Int)) (fs:List (Int×Int)) (m k:Nat),vs=[.ref x,.int n]∧H x=some (.ins C dx (rowF R L))∧H R=some (.lst (as.map V.ref))∧LH H as ps∧R≠L∧L∉as∧H L=some (.lst (cs.map V.ref))∧TH H cs (carryF ps fs k)∧fs.length<=480∧Cr ps fs m∧
 (((n < 0∨400 < n)∧E (.ref D) none H)∨
  (∃j:Nat,n=(j:Int)∧j<=400∧(∀i,fs.length+i<=j+1->Good (carryF ps fs i))∧∀(r:Addr) (cs':List Addr) (k':Nat) (f:Int×Int) (H':Hp),k<=k'->fs.length+k'<=max (fs.length+k) (j+1)->(∀b o,b≠L->H b=some o->H' b=some o)->H' L=some (.lst (cs'.map V.ref))->TH H' cs' (carryF ps fs k')->(carryF ps fs k')[j]?=some f->cs'[j]?=some r->H' r=some (.tup [.int f.1,.int f.2])->Q (.ref r) H'))
theorem ok_Row_at {P:Program} {w:World} {K:W.Frag} {mg:Str->Option Value} {base:Heap} (T:Tx K mg):FnOk P w K mg base (CXE P w) 7 T.a_Row_at T.fd_Row_at ["self","n"] (spAt K T.c_Row T.c_NoPlace):=by
 refine T.F_Row_at.okE sc_Row_at (fun vs H Q E h=>?_) (fun cdv A outer s H vs Q E hr h=>?_)
 ·obtain⟨x,dx,R,L,n,as,cs,ps,fs,m,k,rfl,_⟩:=h
  rfl
 obtain⟨x,dx,R,L,n,as,cs,ps,fs,m,k,rfl,hx,hR,hL,nRL,nin,hK,hT,l4,C,hq⟩:=h
 refine⟨_,((pss_cons (ps_if (PT.nox (PW.pt (pw_or (pt_cmpR op_lt (pv 1) pe_int (nomark _)) (pw_or1 (pt_cmpR op_gt (pv 1) (pe_glob (v:=.int 400) rfl T.g_FARTHEST_PLACE.2 ⟨_,rfl⟩) (nomark _)))))) (pss_one (ps_raise rfl throwE rfl T.mc_NoPlace T.xc_NoPlace (pa_cons (pe_fst (pe_glob (v:=.int 400) rfl T.g_FARTHEST_PLACE.2 ⟨_,rfl⟩)) pa_nil))) pss_nil)
  (pss_cons (PS.nox (ps_while PassesOwn.never (pt_cmpR op_le (pe_callB call_len_seq rfl T.z_len bt_len (pa_cons (pe_fld (pv 0) rfl) pa_nil)) (pv 1) (nomark _)) (pss_one (ps_expr (pe_bm PySem.F.plainAttrs_list PySem.F.slot_list_append PySem.F.type_list_append mt_append (pe_fld (pv 0) rfl) (pa_cons (pe_call (FnOk.mono (ok_next_value T) (by decide)) hr rfl T.m_next_value T.F_next_value.kp T.b_next_value .nil pass0 (pa_cons (pe_fld (pv 0) rfl) (pa_cons (pe_fld (pv 0) rfl) pa_nil))) pa_nil))))))
  (pss_one (PS.nox (ps_ret (pe_ix ix_list (pe_fld (pv 0) rfl) (pv 1) (fun _ _=>rfl)))))))),?_⟩
 dsimp only [a_seq]
 k_typeOf
 have hb:∀p∈ps,p.length<=64∧∀x∈p,Bd 1300 x:=fun p hp=>⟨(C.b p hp).1,fun x hx=>((C.b p hp).2 x hx).mono (by decide)⟩
 have nd:=C.need
 rcases hq with ⟨hn,q⟩ | ⟨j,rfl,j400,hG,q⟩
 ·refine ite2 (fun h=>⟨by decide,by decide,by decide,by decide,q⟩) (fun h=>ite2 (fun h2=>⟨by decide,by decide,by decide,by decide,q⟩) (fun h2=>by omega))
 rw [if_neg (by omega),if_neg (by omega)]
 dsimp only [a_seq]
 k_typeOf
 have l1:(rowF R L).lookup (Str.ofString "rule")=some (V.ref R):=rfl
 have l2:(rowF R L).lookup (Str.ofString "known")=some (V.ref L):=rfl
 have hxL:x≠L:=ne_of hx hK (fun z=>nomatch z)
 obtain⟨Pu,hPu⟩:∃Pu:Nat->L2.St->Hp->Prop,∀u σ Hx,Pu u σ Hx↔∃(k2:Nat) (cs2:List Addr),σ=[some (V.ref x),some (V.int (j:Int))]∧Hx L=some (.lst (cs2.map V.ref))∧TH Hx cs2 (carryF ps fs k2)∧k<=k2∧fs.length+k2<=max (fs.length+k) (j+1)∧u=j+1 - (fs.length+k2)∧∀b o,b≠L->H b=some o->Hx b=some o:=⟨_,fun _ _ _=>Iff.rfl⟩
 refine while_of Pu (j+1 - (fs.length+k)) ((hPu _ _ _).mpr ⟨k,cs,rfl,hK,hT,Nat.le_refl _,by omega,rfl,fun _ _ _ e=>e⟩) ?_
 intro u σ Hx hu
 obtain⟨k2,cs2,rfl,eL,th,hk,hm,rfl,kp⟩:=(hPu _ _ _).mp hu
 have lc:=th.len
 rw [carry_len] at lc
 have ex:=kp _ _ hxL hx
 have eR:=kp _ _ nRL hR
 have lh2:LH Hx as ps:=⟨hL.len,fun i a p h1 h2=>kp _ _ (fun z=>nin (by rw [← z];exact List.mem_of_getElem? h1)) (hL.get i a p h1 h2)⟩
 have ln:=carry_len ps fs k2
 k_units
 refine⟨T.c_Row,dx,_,ex,T.cl_Row,T.na_Row_known,_,l2,L,rfl,_,.inl (SqL.of eL),?_⟩
 rw [List.length_map,lc]
 refine ite2 (fun h=>?_) (fun h=>?_)
 ·refine⟨fun σ' H1=>Pu (j+1 - (fs.length+(k2+1))) σ' H1,fun σ' H1 hN=>⟨_,by omega,hN⟩,T.c_Row,dx,_,ex,T.cl_Row,T.na_Row_known,_,l2,a_tyL (SqL.of eL),T.c_Row,dx,_,ex,T.cl_Row,T.na_Row_rule,_,l1,T.c_Row,dx,_,ex,T.cl_Row,T.na_Row_known,_,l2,?_⟩
  refine⟨R,L,as,cs2,ps,carryF ps fs k2,rfl,SqL.of eR,lh2.ll,SqL.of eL,th.tl,C.I,C.l6,by rw [ln];omega,by rw [ln];omega,hb,hG k2 (by omega),val_clr C.c1 (by rw [ln];omega),fun r H2 s2 er=>?_⟩
  refine⟨L,rfl,_,s2 _ _ eL,by rw [List.length_map];exact small1000 (by omega),(hPu _ _ _).mpr ⟨k2+1,cs2++[r],rfl,by rw [upd_same];simp,?_,by omega,by omega,by omega,fun b o hb' e=>by rw [upd_ne hb'];exact s2 _ _ (kp b o hb' e)⟩⟩
  exact TH.upd (TH.snoc (th.same s2) er) (s2 _ _ eL)
 ·refine⟨T.c_Row,dx,_,ex,T.cl_Row,T.na_Row_known,_,l2,L,rfl,_,SqL.of eL,?_⟩
  have hj:j < cs2.length:=by omega
  have hj2:j < (carryF ps fs k2).length:=by rw [ln];omega
  exact⟨V.ref cs2[j],atI_nat (by rw [List.getElem?_map,List.getElem?_eq_getElem hj];rfl),q cs2[j] cs2 k2 (carryF ps fs k2)[j] Hx hk hm kp eL th (List.getElem?_eq_getElem hj2) (List.getElem?_eq_getElem hj) (th.get j _ _ (List.getElem?_eq_getElem hj) (List.getElem?_eq_getElem hj2))⟩
def spCarry {K:W.Frag} {mg:Str->Option Value} (T:Tx K mg):Sp:=fun vs H Q E=>∃(R Vp:Addr) (as bs:List Addr) (ps:List (List Int)) (fs:List (Int×Int)) (k n many:Nat),vs=[.ref R,.ref Vp,.int (many:Int)]∧SqL K H R (as.map V.ref)∧LL K H as ps∧SqL K H Vp (bs.map V.ref)∧TH H bs fs∧many<=480∧Sml ps fs∧Vd ps fs k n∧(∀H',Same H H'->Rf T E k n H')∧(k=10->∀i,fs.length+i<=many->Good (carryF ps fs i))∧
 (k=10->∀D cs H',Same H H'->H D=none->H' D=some (.lst (cs.map V.ref))->TH H' cs ((carryF ps fs (many - fs.length)).take many)->Q (.ref D) H')
theorem ok_carried_on {P:Program} {w:World} {K:W.Frag} {mg:Str->Option Value} {base:Heap} (T:Tx K mg):FnOk P w K mg base (CXE P w) 8 T.a_carried_on T.fd_carried_on ["rule","first","many"] (spCarry T):=by
 refine T.F_carried_on.okE sc_carried_on (fun vs H Q E h=>?_) (fun cdv A outer s H vs Q E hr h=>?_)
 ·obtain⟨R,Vp,as,bs,ps,fs,k,n,many,rfl,_⟩:=h
  rfl
 obtain⟨R,Vp,as,bs,ps,fs,k,n,many,rfl,hR,hL,hV,hT,lm,S,v,qe,hG,q⟩:=h
 refine⟨_,((pss_cons (ps_expr (pe_call (FnOk.mono (ok_check_first T) (by decide)) hr rfl T.m_check_first T.F_check_first.kp T.b_check_first .nil passE (pa_cons (pv 0) (pa_cons (pv 1) pa_nil))))
  (pss_cons (PS.nox (ps_set (i:=3) sc_carried_on.nd rfl (Or.inl rfl) (pe_callTy call_list_of rfl T.z_list bt_list (pa_cons (pv 1) pa_nil))))
  (pss_cons (PS.nox (ps_while PassesOwn.never (pt_cmpR op_lt (pe_callB call_len_seq rfl T.z_len bt_len (pa_cons (pv 3) pa_nil)) (pv 2) (nomark _)) (pss_one (ps_expr (pe_bm PySem.F.plainAttrs_list PySem.F.slot_list_append PySem.F.type_list_append mt_append (pv 3) (pa_cons (pe_call (FnOk.mono (ok_next_value T) (by decide)) hr rfl T.m_next_value T.F_next_value.kp T.b_next_value .nil pass0 (pa_cons (pv 0) (pa_cons (pv 3) pa_nil))) pa_nil))))))
  (pss_one (PS.nox (ps_ret (pe_slice sl_list (pv 3) po_none (po_some (pe_callB (call_max2 rfl) rfl T.z_max bt_max (pa_cons (pv 2) (pa_cons pe_int pa_nil)))))))))))),?_⟩
 k_units
 refine⟨R,Vp,as,bs,ps,fs,k,n,rfl,hR,hL,hV,hT.tl,S,v,qe,fun hk H1 s1=>⟨_,.inl (s1.seq hV),fun L nL=>?_⟩⟩
 subst hk
 replace hG:=hG rfl
 replace q:=q rfl
 obtain⟨m,C⟩:=vd_cr S v
 have l4:=S.l4
 have lp:=List.length_pos_iff.mpr C.I.1
 have hb:∀p∈ps,p.length<=64∧∀x∈p,Bd 1300 x:=fun p hp=>⟨(C.b p hp).1,fun x hx=>((C.b p hp).2 x hx).mono (by decide)⟩
 have nd:=C.need
 have nLH:H L=none:=s1.free nL
 obtain⟨Pu,hPu⟩:∃Pu:Nat->L2.St->Hp->Prop,∀k σ Hx,Pu k σ Hx↔∃(j:Nat) (cs:List Addr),σ=[some (V.ref R),some (V.ref Vp),some (V.int many),some (V.ref L)]∧Hx L=some (.lst (cs.map V.ref))∧TH Hx cs (carryF ps fs j)∧(fs.length+j<=many∨j=0)∧k=many - (fs.length+j)∧Same H Hx:=⟨_,fun _ _ _=>Iff.rfl⟩
 refine while_of Pu (many - fs.length) ((hPu _ _ _).mpr ⟨0,bs,rfl,upd_same,(hT.same s1).same (same_upd nL _),.inr rfl,by omega,s1.trans (same_upd nL _)⟩) ?_
 intro k σ Hx hu
 obtain⟨j,cs,rfl,eL,th,hj,rfl,sx⟩:=(hPu _ _ _).mp hu
 have lc:=th.len
 rw [carry_len] at lc
 k_units
 refine⟨_,.inl (SqL.of eL),?_⟩
 rw [List.length_map,lc]
 refine ite2 (fun h=>?_) (fun h=>?_)
 ·have ln:=carry_len ps fs j
  refine⟨fun σ' H1=>Pu (many - (fs.length+(j+1))) σ' H1,fun σ' H1 hN=>⟨_,by omega,hN⟩,a_tyL (SqL.of eL),R,L,as,cs,ps,carryF ps fs j,rfl,sx.seq hR,hL.same sx,SqL.of eL,th.tl,C.I,C.l6,by rw [ln];omega,by rw [ln];omega,hb,hG j (by omega),val_clr C.c1 (by rw [ln];omega),fun r H2 s2 er=>⟨_,s2 _ _ eL,by rw [List.length_map];exact small1000 (by omega),(hPu _ _ _).mpr ⟨j+1,cs++[r],rfl,by rw [upd_same];simp,?_,.inl (by omega),by omega,(sx.trans s2).more nLH⟩⟩⟩
  exact TH.upd (TH.snoc (th.same s2) er) (s2 _ _ eL)
 ·have ej:j=many - fs.length:=by omega
  refine⟨_,SqL.of eL,fun p np=>?_⟩
  have e0:(if (0:Int) > (many:Int) then (0:Int) else (many:Int))=(many:Int):=if_neg (by omega)
  rw [e0,cut_upto]
  have u:=same_upd np (.lst ((cs.take many).map V.ref))
  rw [← ej] at q
  exact q p (cs.take many) _ (sx.trans u) (sx.free np) upd_same ((th.take many).same u)
theorem trim_drop {xs:List Int} (h:xs≠[]) (h0:xs.getLast h=0):trim xs.dropLast=trim xs:=by
 have e:=List.dropLast_concat_getLast h
 rw [h0] at e
 conv=>rhs;rw [← e]
 rw [trim_zero]
theorem ok__law_cut {P:Program} {w:World} {K:W.Frag} {mg:Str->Option Value} {base:Heap} (T:Tx K mg):FnOk P w K mg base CX0 1 T.a__law_cut T.fd__law_cut ["_law_numbers"] (spTrim K):=by
 refine T.F__law_cut.ok sc__law_cut (fun vs H Q E h=>?_) (fun cdv A outer s H vs Q E hr h=>?_)
 ·obtain⟨a,xs,rfl,_⟩:=h
  rfl
 obtain⟨a,xs,rfl,hS,hl,q⟩:=h
 refine⟨_,((pss_cons (ps_set (i:=1) sc__law_cut.nd rfl (Or.inl rfl) (pe_callTy call_list_of rfl T.z_list bt_list (pa_cons (pv 0) pa_nil)))
  (pss_cons (ps_while PassesOwn.never (PW.pt (pw_and (pt_cmpR op_gt (pe_callB call_len_seq rfl T.z_len bt_len (pa_cons (pv 1) pa_nil)) pe_int (nomark _)) (pw_and1 (pt_cmpR op_eq (pe_ix ix_list (pv 1) (pe_un un_neg pe_int) (fun _ _=>rfl)) pe_int (nomark _))))) (pss_one (ps_expr (pe_bm0 PySem.F.plainAttrs_list PySem.F.slot_list_pop PySem.F.type_list_pop mt_pop (pv 1)))))
  (pss_one (ps_ret (pv 1)))))),?_⟩
 k_units
 refine⟨_,.inl hS,fun L hL=>?_⟩
 refine while_of (fun m σ H'=>∃ys:List Int,ys.length=m∧σ=[some (.ref a),some (.ref L)]∧H'=upd H L (.lst (ys.map V.int))∧trim ys=trim xs) xs.length ⟨xs,rfl,rfl,rfl,rfl⟩ ?_
 rintro m σ H' ⟨ys,hm,rfl,rfl,he⟩
 k_units
 refine⟨_,.inl (SqL.of upd_same),?_⟩
 rw [List.length_map]
 have fin:Nml ys->Q (.ref L) (upd H L (.lst (ys.map V.int))):=fun hn=>by
  refine q L _ (same_upd hL _) hL ?_
  rw [upd_same,← he,nml_trim hn]
 refine ite2 (fun h=>?_) (fun h=>?_)
 ·have hne:ys≠[]:=by intro z;rw [z] at h;simp at h
  refine⟨_,SqL.of upd_same,_,at_last hne,?_⟩
  k_units
  refine ite2 (fun h0=>?_) (fun h0=>?_)
  ·refine⟨fun σ' H1=>σ'=[some (V.ref a),some (V.ref L)]∧H1=upd H L (.lst (ys.dropLast.map V.int)),?_,a_tyL (SqL.of upd_same),_,upd_same,V.int (ys.getLast hne),?_,rfl,?_⟩
   ·rintro σ' H1 ⟨rfl,rfl⟩
    exact⟨ys.length - 1,by omega,ys.dropLast,List.length_dropLast,rfl,rfl,by rw [trim_drop hne h0];exact he⟩
   ·rw [List.getElem?_map,List.length_map,← List.getLast?_eq_getElem?,List.getLast?_eq_some_getLast hne];rfl
   ·rw [upd_upd,← List.map_dropLast]
  ·refine fin (nml_last.mpr fun x hx=>?_)
   rw [List.getLast?_eq_some_getLast hne] at hx
   rw [← Option.some.inj hx];exact h0
 ·have hn:ys=[]:=List.eq_nil_of_length_eq_zero (by omega)
  exact fin (by rw [hn];exact nml_nil)
theorem rep_zero (k:Nat):(List.replicate k [V.int 0]).flatten=(List.replicate k (0:Int)).map V.int:=by
 induction k with
 | zero=>rfl
 | succ k ih=>rw [List.replicate_succ,List.flatten_cons,ih,List.replicate_succ];rfl
theorem co_rep (k j:Nat):co (List.replicate k 0) j=0:=by
 unfold co
 rw [List.getD_eq_getElem?_getD,List.getElem?_replicate]
 split <;> rfl
theorem sumN_ext {n m:Nat} {f:Nat->Int} (h:n<=m) (hz:∀j,n<=j->j < m->f j=0):sumN m f=sumN n f:=by
 induction m with
 | zero=>rw [show n=0 by omega]
 | succ m ih=>
  by_cases e:n=m+1
  ·rw [e]
  ·simp only [sumN]
   rw [ih (by omega) fun j h1 h2=>hz j h1 (by omega),hz m (by omega) (by omega)];omega
theorem pm_cv (xs ys:List Int) (k:Nat):pm (co xs) (co ys) k=cv xs ys xs.length k:=by
 have e1:pm (co xs) (co ys) k=sumN (k+1) fun j=>co xs j * cz ys k j:=by
  unfold pm
  exact sumN_congr fun j hj=>by unfold cz;rw [if_pos (by omega)]
 have e2:sumN (k+1+xs.length) (fun j=>co xs j * cz ys k j)=sumN (k+1) fun j=>co xs j * cz ys k j:=
  sumN_ext (by omega) fun j h1 _=>by unfold cz;rw [if_neg (by omega)];simp
 have e3:sumN (k+1+xs.length) (fun j=>co xs j * cz ys k j)=sumN xs.length fun j=>co xs j * cz ys k j:=
  sumN_ext (by omega) fun j h1 _=>by rw [co_ge h1];simp
 rw [e1,← e2,e3];rfl
def spProd7 (K:W.Frag):Sp:=fun vs H Q _=>∃(a b:Addr) (xs ys:List Int) (k l:Nat),vs=[.ref a,.ref b]∧SqL K H a (xs.map V.int)∧SqL K H b (ys.map V.int)∧xs.length<=40∧ys.length<=40∧(∀x∈xs,Bd k x)∧(∀y∈ys,Bd l y)∧k+l<=5000∧
 ∀ws:List Int,Nml ws->ws.length<=xs.length+ys.length->(∀j,co ws j=pm (co xs) (co ys) j)->newL H Q (ws.map V.int)
theorem ok__law_product {P:Program} {w:World} {K:W.Frag} {mg:Str->Option Value} {base:Heap} (T:Tx K mg):FnOk P w K mg base CX0 2 T.a__law_product T.fd__law_product ["_law_one","_law_other"] (spProd7 K):=by
 refine T.F__law_product.ok sc__law_product (fun vs H Q E h=>?_) (fun cdv A outer s H vs Q E hr h=>?_)
 ·obtain⟨a,b,xs,ys,k0,l0,rfl,_⟩:=h
  rfl
 obtain⟨a,b,xs,ys,k0,l0,rfl,hA,hB,la,lb,ba,bb,hkl,q⟩:=h
 refine⟨_,((pss_cons (ps_set (i:=2) sc__law_product.nd rfl (Or.inl rfl) (pe_op op_rep (pe_lst (pa_cons pe_int pa_nil)) (pe_op op_add (pe_callB call_len_seq rfl T.z_len bt_len (pa_cons (pv 0) pa_nil)) (pe_callB call_len_seq rfl T.z_len bt_len (pa_cons (pv 1) pa_nil)))))
  (pss_cons (ps_for PassesOwn.never rfl (pi_range1 rfl T.z_range (pa_cons (pe_callB call_len_seq rfl T.z_len bt_len (pa_cons (pv 0) pa_nil)) pa_nil)) (pg_name (i:=3) sc__law_product.nd rfl (Or.inl rfl)) (pss_one (ps_for PassesOwn.never rfl (pi_range1 rfl T.z_range (pa_cons (pe_callB call_len_seq rfl T.z_len bt_len (pa_cons (pv 1) pa_nil)) pa_nil)) (pg_name (i:=4) sc__law_product.nd rfl (Or.inl rfl)) (pss_one (ps_asg (pe_op op_add (pe_ix ix_list (pv 2) (pe_op op_add (pv 3) (pv 4)) (fun _ _=>rfl)) (pe_op op_mulZ (pe_ix ix_list (pv 0) (pv 3) (fun _ _=>rfl)) (pe_ix ix_list (pv 1) (pv 4) (fun _ _=>rfl)))) (pg_sub (pv 2) (pe_op op_add (pv 3) (pv 4)) set_list))))))
  (pss_one (ps_ret (pe_call (FnOk.mono (ok__law_cut T) (by decide)) hr rfl T.m__law_cut T.F__law_cut.kp T.b__law_cut .nil pass0 (pa_cons (pv 2) pa_nil))))))),?_⟩
 k_units
 refine⟨by decide,fun p hp=>?_⟩
 have s1:=same_upd hp (.lst [V.int 0])
 refine⟨_,.inl (s1.seq hA),_,.inl (s1.seq hB),_,upd_same,?_⟩
 rw [List.length_map,List.length_map,rep_zero]
 obtain⟨k,hk⟩:∃k:Nat,(xs.length:Int)+(ys.length:Int)=(k:Int):=⟨xs.length+ys.length,by omega⟩
 have hk1:k=xs.length+ys.length:=by omega
 rw [hk,Int.toNat_natCast]
 refine⟨by omega,by omega,Nat.le_of_lt (small1000 (by simp;omega)),fun F hF=>?_⟩
 have s4:=s1.trans (same_upd hF (.lst ((List.replicate k (0:Int)).map V.int)))
 have f0:=s1.free hF
 have h4:upd (upd H p (.lst [V.int 0])) F (.lst ((List.replicate k (0:Int)).map V.int)) F=_:=upd_same
 generalize upd (upd H p (.lst [V.int 0])) F (.lst ((List.replicate k (0:Int)).map V.int))=H4 at s4 h4 ⊢
 refine⟨_,.inl (s4.seq hA),?_⟩
 rw [List.length_map,Int.toNat_natCast]
 refine⟨by omega,by omega,?_⟩
 obtain⟨Pv,hPv⟩:∃Pv:Nat->L2.St->Hp->Prop,∀l σ H',Pv l σ H'↔∃(zs:List Int) (r1 r2:Option V),σ=[some (V.ref a),some (V.ref b),some (V.ref F),r1,r2]∧H' F=some (.lst (zs.map V.int))∧zs.length=k∧
  (∀j,co zs j=cv xs ys l j)∧Same H H':=⟨_,fun _ _ _=>Iff.rfl⟩
 refine lp_range Pv ((hPv _ _ _).mpr ⟨_,none,none,rfl,h4,by simp,fun j=>by rw [co_rep];rfl,s4⟩) ?_ ?_
 ·intro l σ H' hi hp'
  obtain⟨zs,r1,r2,rfl,hz,lz,cz',sz⟩:=(hPv _ _ _).mp hp'
  have e1:(0:Int)+(l:Int)=(l:Int):=Int.zero_add _
  (iterate 3 (k_units;(try simp only [e1]));k_units)
  refine⟨_,.inl (sz.seq hB),?_⟩
  rw [List.length_map,Int.toNat_natCast]
  refine⟨by omega,by omega,?_⟩
  obtain⟨Pw,hPw⟩:∃Pw:Nat->L2.St->Hp->Prop,∀j σ H',Pw j σ H'↔∃(zs:List Int) (r2:Option V),σ=[some (V.ref a),some (V.ref b),some (V.ref F),some (V.int l),r2]∧H' F=some (.lst (zs.map V.int))∧zs.length=k∧
   (∀t,co zs t=cv xs ys l t+if l<=t∧t < l+j then xs[l] * co ys (t - l) else 0)∧Same H H':=⟨_,fun _ _ _=>Iff.rfl⟩
  refine lp_range Pw ((hPw _ _ _).mpr ⟨zs,_,rfl,hz,lz,fun t=>by rw [cz' t,if_neg (show ¬(l<=t∧t < l+0) by omega)];omega,sz⟩) ?_ ?_
  ·intro j σ H' hj hp'
   obtain⟨zs,r2,rfl,hz,lz,cz',sz⟩:=(hPw _ _ _).mp hp'
   have e2:(0:Int)+(j:Int)=(j:Int):=Int.zero_add _
   have eij:(l:Int)+(j:Int)=((l+j:Nat):Int):=rfl
   (iterate 3 (k_units;(try simp only [e2,eij]));k_units)
   have hiz:l+j < zs.length:=by omega
   refine⟨_,SqL.of hz,_,at_int hiz,_,sz.seq hA,_,at_int hi,_,sz.seq hB,_,at_int hj,?_⟩
   k_units
   refine⟨(ba _ (List.getElem_mem hi)).fits (bb _ (List.getElem_mem hj)) (by omega),_,hz,l+j,ixN_nat (by rw [List.length_map];exact hiz),(hPw _ _ _).mpr ⟨zs.set (l+j) (zs[l+j]+xs[l] * ys[j]),_,rfl,by rw [upd_same,map_set],by rw [List.length_set];exact lz,fun t=>?_,sz.more f0⟩⟩
   rw [co_set _ _ _ _ hiz]
   by_cases e:t=l+j
   ·subst e
    have:=cz' (l+j)
    rw [if_neg (show ¬(l<=l+j∧l+j < l+j) by omega),co_lt hiz] at this
    rw [if_pos (show l+j=l+j from rfl),if_pos (show l<=l+j∧l+j < l+(j+1) by omega),show l+j - l=j by omega,co_lt hj];omega
   ·rw [if_neg e,cz' t]
    by_cases h3:l<=t∧t < l+j
    ·rw [if_pos h3,if_pos (show l<=t∧t < l+(j+1) by omega)]
    ·rw [if_neg h3,if_neg (show ¬(l<=t∧t < l+(j+1)) by omega)]
  ·intro σ H' hp'
   obtain⟨zs,r2,rfl,hz,lz,cz',sz⟩:=(hPw _ _ _).mp hp'
   refine (hPv _ _ _).mpr ⟨zs,_,_,rfl,hz,lz,fun t=>?_,sz⟩
   rw [cz' t]
   have e:cv xs ys (l+1) t=cv xs ys l t+co xs l * cz ys t l:=rfl
   rw [e,co_lt hi]
   unfold cz
   by_cases h2:l<=t
   ·rw [if_pos h2]
    by_cases h3:t < l+ys.length
    ·rw [if_pos ⟨h2,h3⟩]
    ·rw [if_neg (by omega),co_ge (xs:=ys) (by omega),Int.mul_zero]
   ·rw [if_neg (by omega),if_neg h2,Int.mul_zero]
 ·intro σ H' hp'
  obtain⟨zs,r1,r2,rfl,hz,lz,cz',sz⟩:=(hPv _ _ _).mp hp'
  k_units
  refine⟨F,zs,rfl,SqL.of hz,by omega,fun R H2 s2 nR eR=>q (trim zs) (trim_nml _) (Nat.le_trans (trim_len _) (by omega)) (fun j=>?_) R _ (sz.trans s2) (sz.free nR) eR⟩
  rw [trim_co,cz' j,pm_cv]
def cell (ns:List Int) (k:Nat):Int:=ns.getD k 0
def spCellAt (K:W.Frag):Sp:=fun vs H Q _=>∃(a:Addr) (ns:List Int) (k:Nat),vs=[.ref a,.int (k:Int)]∧SqL K H a (ns.map V.int)∧Q (.int (cell ns k)) H
theorem ok__law_cell_at {P:Program} {w:World} {K:W.Frag} {mg:Str->Option Value} {base:Heap} (T:Tx K mg):FnOk P w K mg base CX0 1 T.a__law_cell_at T.fd__law_cell_at ["_law_script","_law_k"] (spCellAt K):=by
 refine T.F__law_cell_at.ok sc__law_cell_at (fun vs H Q E h=>?_) (fun cdv A outer s H vs Q E hr h=>?_)
 ·obtain⟨a,ns,k,rfl,_⟩:=h
  rfl
 obtain⟨a,ns,k,rfl,hS,q⟩:=h
 refine⟨_,((pss_cons (ps_if (pt_cmpR op_lt (pv 1) (pe_callB call_len_seq rfl T.z_len bt_len (pa_cons (pv 0) pa_nil)) (nomark _)) (pss_one (ps_ret (pe_ix ix_list (pv 0) (pv 1) (fun _ _=>rfl)))) pss_nil)
  (pss_one (ps_ret pe_int)))),?_⟩
 k_units
 refine⟨_,.inl hS,?_⟩
 rw [List.length_map]
 unfold cell at q
 refine ite2 (fun h=>?_) (fun h=>?_)
 ·have h':k < ns.length:=by omega
  rw [List.getD_eq_getElem?_getD,List.getElem?_eq_getElem h'] at q
  exact⟨_,hS,_,at_int h',q⟩
 ·rw [List.getD_eq_getElem?_getD,List.getElem?_eq_none (by omega)] at q
  exact q
theorem eqv_dec (xs ys:List Int):PyData.eqv (.list (xs.map PyData.int)) (.list (ys.map PyData.int))=decide (xs=ys):=by simp [PyData.eqv,eqvAll_ints]
theorem lay_self (xs:List Int):PyData.canLay0 (.list (xs.map PyData.int))=true:=by simp [PyData.canLay0,lay_ints]
theorem dep_self (xs:List Int):PyData.depth (.list (xs.map PyData.int))<=64:=by simp [PyData.depth,depth_ints]
theorem ok__law_value {P:Program} {w:World} {K:W.Frag} {mg:Str->Option Value} {base:Heap} (T:Tx K mg):FnOk P w K mg base CX0 1 T.a__law_value T.fd__law_value ["_law_poly","_law_n"] (spValue K):=by
 refine T.F__law_value.ok sc__law_value (fun vs H Q E h=>?_) (fun cdv A outer s H vs Q E hr h=>?_)
 ·obtain⟨a,xs,n,k,l,rfl,_⟩:=h
  rfl
 obtain⟨a,xs,n,k,l,rfl,hS,hl,hk,hb,hf,q⟩:=h
 refine⟨_,((pss_cons (ps_set (i:=2) sc__law_value.nd rfl (Or.inl rfl) pe_int)
  (pss_cons (ps_for PassesOwn.never rfl (pi_rev rfl T.z_reversed (pa_cons (pv 0) pa_nil)) (pg_name (i:=3) sc__law_value.nd rfl (Or.inl rfl)) (pss_one (ps_set (i:=2) sc__law_value.nd rfl (Or.inl rfl) (pe_op op_add (pe_op op_mulZ (pv 2) (pv 1)) (pv 3)))))
  (pss_one (ps_ret (pv 2)))))),?_⟩
 k_units
 refine⟨_,hS,?_⟩
 obtain⟨Pv,hPv⟩:∃Pv:Nat->L2.St->Hp->Prop,∀i σ H',Pv i σ H'↔(∃r,σ=[some (V.ref a),some (V.int n),some (V.int (val n (xs.drop (xs.length - i)))),r])∧Bd (k+(l+1) * i) (val n (xs.drop (xs.length - i)))∧H'=H:=⟨_,fun _ _ _=>Iff.rfl⟩
 refine lp_rev Pv ((hPv _ _ _).mpr ⟨⟨none,by simp [val]⟩,by simp [val,Bd.zero],rfl⟩) (fun i σ H' _ z=>by rw [((hPv i σ H').mp z).2.2];exact hS) ?_ ?_
 ·intro i v σ H' hi hv hp
  obtain⟨⟨r,rfl⟩,hbd,rfl⟩:=(hPv _ _ _).mp hp
  rw [List.length_map] at hi hv
  rw [List.getElem?_map,List.getElem?_eq_getElem (by omega)] at hv
  obtain rfl:V.int xs[xs.length - 1 - i]=v:=Option.some.inj hv
  k_units
  have hx:Bd k xs[xs.length - 1 - i]:=hk _ (List.getElem_mem _)
  have e:xs.length - (i+1)=xs.length - 1 - i:=by omega
  have i64:(l+1) * i<=l * 64+64:=by have:=Nat.mul_le_mul_left (l+1) (by omega:i<=64);omega
  refine⟨hbd.fits hb (by omega),(hPv _ _ _).mpr ⟨⟨_,by rw [e,val_drop n xs i hi]⟩,?_,rfl⟩⟩
  rw [e,val_drop n xs i hi]
  refine ((hbd.mul hb).add (hx.mono (by omega:k<=k+(l+1) * i+l))).mono ?_
  rw [Nat.mul_succ];omega
 ·intro σ H' hp
  obtain⟨⟨r,rfl⟩,_,rfl⟩:=(hPv _ _ _).mp hp
  k_units
  rw [List.length_map,Nat.sub_self,List.drop_zero]
  exact q
theorem shift_zero (xs:List Int):shiftL 0 xs=xs:=co_ext (shift_len 0 xs) fun k _=>co_of_val (fun n=>by rw [val_shift];simp) k
def spNum13:Sp:=fun vs H Q _=>∃(c m:Int),vs=[.int c,.int m]∧(m=10 ^ 60∨m=10 ^ 18)∧∀n:Int,n.natAbs < m.natAbs->Q (.int n) H
theorem ok__law_number {P:Program} {w:World} {K:W.Frag} {mg:Str->Option Value} {base:Heap} (T:Tx K mg):FnOk P w K mg base CX0 1 T.a__law_number T.fd__law_number ["_law_cell","_law_most"] spNum13:=by
 refine T.F__law_number.ok sc__law_number (fun vs H Q E h=>?_) (fun cdv A outer s H vs Q E hr h=>?_)
 ·obtain⟨c,m,rfl,_⟩:=h
  rfl
 obtain⟨c,m,rfl,hm,q⟩:=h
 refine⟨_,((pss_cons (ps_if (pt_cmpR op_eq (pe_op op_mod (pv 0) pe_int) pe_int (nomark _)) (pss_one (ps_ret (pe_op op_add (pe_op op_sub (pe_op op_mod (pe_op op_fdiv (pv 0) pe_int) (pe_op op_sub (pe_op op_mul pe_int (pv 1)) pe_int)) (pv 1)) pe_int))) pss_nil)
  (pss_cons (ps_if (pt_cmpR op_eq (pe_op op_mod (pv 0) pe_int) pe_int (nomark _)) (pss_one (ps_ret (pe_op op_sub (pe_op op_mod (pe_op op_fdiv (pv 0) pe_int) pe_int) pe_int))) pss_nil)
  (pss_one (ps_ret (pe_op op_sub (pe_op op_mod (pe_op op_fdiv (pv 0) pe_int) pe_int) pe_int)))))),?_⟩
 k_units
 have d:CDiv c 3:=⟨by decide,by decide⟩
 have big:10 ^ 18<=m.natAbs∧(0:Int) < m:=by rcases hm with rfl | rfl <;> decide
 refine⟨by decide,ite2 (fun h=>?_) (fun h=>⟨by decide,ite2 (fun h2=>?_) (fun h2=>?_)⟩)⟩
 ·have h1:=Int.emod_nonneg (c / 3) (show (2 * m - 1:Int)≠0 by omega)
  have h2:=Int.emod_lt_of_pos (c / 3) (show (0:Int) < 2 * m - 1 by omega)
  exact⟨d,.inl ⟨by decide,by decide⟩,by omega,q _ (by omega)⟩
 ·exact⟨d,by decide,q _ (by omega)⟩
 ·exact⟨d,by decide,q _ (by omega)⟩
def spLow:Sp:=fun vs H Q _=>∃t b:Int,vs=[.int t,.int b]∧b≠0∧Bd 8900 b∧∀x y:Int,1<=y->Nat.gcd x.natAbs y.natAbs=1->x * b=t * y->x.natAbs<=t.natAbs->y.natAbs<=b.natAbs->mkT H Q x y
theorem ok__law_lowest {P:Program} {w:World} {K:W.Frag} {mg:Str->Option Value} {base:Heap} (T:Tx K mg):FnOk P w K mg base CX0 2 T.a__law_lowest T.fd__law_lowest ["_law_top","_law_bottom"] spLow:=by
 refine T.F__law_lowest.ok sc__law_lowest (fun vs H Q E h=>?_) (fun cdv A outer s H vs Q E hr h=>?_)
 ·obtain⟨t,b,rfl,_⟩:=h
  rfl
 obtain⟨t,b,rfl,hn,hb,q⟩:=h
 refine⟨_,((pss_cons (ps_set (i:=2) sc__law_lowest.nd rfl (Or.inl rfl) (pe_call (FnOk.mono (ok__law_divisor T) (by decide)) hr rfl T.m__law_divisor T.F__law_divisor.kp T.b__law_divisor .nil pass0 (pa_cons (pv 0) (pa_cons (pv 1) pa_nil))))
  (pss_cons (ps_if (pt_cmpR op_lt (pv 1) pe_int (nomark _)) (pss_one (ps_set (i:=2) sc__law_lowest.nd rfl (Or.inl rfl) (pe_un un_neg (pv 2)))) pss_nil)
  (pss_one (ps_ret (pe_tup (pa_cons (pe_op op_fdivB (pv 0) (pv 2)) (pa_cons (pe_op op_fdivB (pv 1) (pv 2)) pa_nil)))))))),?_⟩
 k_units
 refine⟨t,b,rfl,?_⟩
 have small:∀s:Int,s.natAbs=Nat.gcd t.natAbs b.natAbs->s.natAbs < 2 ^ 9000:=fun s e=>by
  rw [e]
  exact Nat.lt_of_le_of_lt (Nat.gcd_le_right _ (by omega)) (Nat.lt_of_lt_of_le hb (Nat.pow_le_pow_right (by decide) (by decide)))
 have fin:∀s:Int,(s=if b < 0 then -((Nat.gcd t.natAbs b.natAbs:Nat):Int) else ((Nat.gcd t.natAbs b.natAbs:Nat):Int))->(s≠0∧s.natAbs < 2 ^ 9000)∧(s≠0∧s.natAbs < 2 ^ 9000)∧mkT H Q (t.fdiv s) (b.fdiv s):=fun s e=>by
  obtain⟨g1,g2,g3,g4,g5,g6⟩:=gcd_split hn e
  refine⟨⟨g1,small s g2⟩,⟨g1,small s g2⟩,q _ _ g5 g6 ?_ (fdiv_le g1 g3) (fdiv_le g1 g4)⟩
  rw [Int.mul_comm,g4,Int.mul_assoc,← g4]
  generalize b.fdiv s=y at *
  generalize t.fdiv s=x at *
  rw [g3,Int.mul_assoc,Int.mul_comm x y]
 refine ite2 (fun hneg=>?_) (fun hneg=>?_)
 ·obtain⟨f1,f2,f3⟩:=fin _ (by rw [if_pos hneg])
  exact⟨_,rfl,f1.1,f1.2,f2.1,f2.2,by decide,f3⟩
 ·obtain⟨f1,f2,f3⟩:=fin _ (by rw [if_neg hneg])
  exact⟨_,rfl,f1.1,f1.2,_,rfl,f2.1,f2.2,by decide,f3⟩
def spFrac:Sp:=fun vs H Q _=>∃c:Int,vs=[.int c]∧∀x y:Int,Frc (x,y)->Bd 200 x->y.natAbs<=1000->∀r H',Same H H'->H' r=some (.tup [.int x,.int y])->Q (.ref r) H'
theorem ok__law_fraction {P:Program} {w:World} {K:W.Frag} {mg:Str->Option Value} {base:Heap} (T:Tx K mg):FnOk P w K mg base CX0 3 T.a__law_fraction T.fd__law_fraction ["_law_cell"] spFrac:=by
 refine T.F__law_fraction.ok sc__law_fraction (fun vs H Q E h=>?_) (fun cdv A outer s H vs Q E hr h=>?_)
 ·obtain⟨c,rfl,_⟩:=h
  rfl
 obtain⟨c,rfl,q⟩:=h
 refine⟨_,((pss_cons (ps_set (i:=1) sc__law_fraction.nd rfl (Or.inl rfl) (pe_op op_mod (pv 0) pe_int))
  (pss_cons (ps_set (i:=1) sc__law_fraction.nd rfl (Or.inl rfl) (pe_op op_mod (pe_op op_mul (pe_op op_add (pe_op op_mulZ (pv 1) (pv 1)) pe_int) pe_int) pe_int))
  (pss_cons (ps_set (i:=2) sc__law_fraction.nd rfl (Or.inl rfl) (pe_ix ix_list (pe_lst (pa_cons pe_int (pa_cons pe_int (pa_cons (pe_op op_add pe_int (pe_op op_mod (pe_op op_fdiv (pv 1) pe_int) pe_int)) (pa_cons (pe_op op_add pe_int (pe_op op_mod (pe_op op_fdiv (pv 1) pe_int) pe_int)) pa_nil))))) (pe_op op_mod (pv 1) pe_int) (fun _ _=>rfl)))
  (pss_one (ps_ret (pe_call (FnOk.mono (ok__law_lowest T) (by decide)) hr rfl T.m__law_lowest T.F__law_lowest.kp T.b__law_lowest .nil pass0 (pa_cons (pe_call (FnOk.mono (ok__law_number T) (by decide)) hr rfl T.m__law_number T.F__law_number.kp T.b__law_number .nil pass0 (pa_cons (pv 0) (pa_cons (pe_op op_pow pe_int pe_int) pa_nil))) (pa_cons (pv 2) pa_nil))))))))),?_⟩
 k_units
 obtain⟨m,hm,m0,m1⟩:∃m:Int,c % 2147483647=m∧0<=m∧m < 2147483647:=⟨_,rfl,by omega,by omega⟩
 rw [hm]
 have bm:Bd 31 m:=Bd.of_lt (m:=2147483647) (by omega) (by decide)
 obtain⟨k,hk,k0,k1⟩:∃k:Int,(m * m+11) * 48271 % 2147483629=k∧0<=k∧k < 2147483629:=by
  generalize (m * m+11) * 48271=z
  exact⟨_,rfl,by omega,by omega⟩
 rw [hk]
 refine⟨by decide,bm.fits bm (by decide),.inr ⟨by decide,by decide⟩,by decide,⟨by decide,by decide⟩,by decide,⟨by decide,by decide⟩,by decide,by decide,fun p hp=>⟨by decide,?_⟩⟩
 obtain⟨b,hb,b1,b2⟩:∃b:Int,atI [V.int 1,V.int 1,V.int (1+k / 4 % 12),V.int (1+k / 4 % 1000)] (k % 4)=some (V.int b)∧1<=b∧b<=1000:=by
  have:k % 4=0∨k % 4=1∨k % 4=2∨k % 4=3:=by omega
  rcases this with e | e | e | e <;> rw [e]
  ·exact⟨1,rfl,by decide,by decide⟩
  ·exact⟨1,rfl,by decide,by decide⟩
  ·exact⟨1+k / 4 % 12,rfl,by omega,by omega⟩
  ·exact⟨1+k / 4 % 1000,rfl,by omega,by omega⟩
 refine⟨_,SqL.of upd_same,_,hb,⟨by decide,by decide,by decide⟩,c,10 ^ 60,rfl,.inl rfl,fun n hn=>⟨n,b,rfl,by omega,Bd.of_lt (m:=1001) (by omega) (Nat.le_trans (show 1001<=2 ^ 10 by decide) (Nat.pow_le_pow_right (by decide) (by decide))),fun x y y1 cg e lx ly r nr=>?_⟩⟩
 have bn:Bd 200 n:=Bd.of_lt hn (by decide)
 exact q x y ⟨y1,cg⟩ (Nat.lt_of_le_of_lt lx bn) (by omega) r _ ((same_upd hp _).trans (same_upd nr _)) upd_same
def spWei (K:W.Frag):Sp:=fun vs H Q _=>∃(R Vp:Addr) (as bs:List Addr) (ps:List (List Int)) (fs:List (Int×Int)) (n:Nat),vs=[.ref R,.ref Vp,.int n]∧SqL K H R (as.map V.ref)∧LL K H as ps∧SqL K H Vp (bs.map V.ref)∧TL K H bs fs∧ps.length<=6∧n+ps.length<=fs.length∧n<=500∧(∀p∈ps,p.length<=64∧∀x∈p,Bd 1300 x)∧Good fs∧
 ∀r H',Same H H'->H' r=some (.tup [.int (Wm (lcmL ((fs.drop n).take ps.length)) ((ps.map (val (n:Int))).zip ((fs.drop n).take ps.length))),.int (lcmL ((fs.drop n).take ps.length))])->Q (.ref r) H'
theorem ok__law_weighed {P:Program} {w:World} {K:W.Frag} {mg:Str->Option Value} {base:Heap} (T:Tx K mg):FnOk P w K mg base CX0 2 T.a__law_weighed T.fd__law_weighed ["_law_rule_here","_law_values_here","_law_n"] (spWei K):=by
 refine T.F__law_weighed.ok sc__law_weighed (fun vs H Q E h=>?_) (fun cdv A outer s H vs Q E hr h=>?_)
 ·obtain⟨R,Vp,as,bs,ps,fs,n,rfl,_⟩:=h
  rfl
 obtain⟨R,Vp,as,bs,ps,fs,n,rfl,hR,hL,hV,hT,l6,nf,n5,hp,hf,q⟩:=h
 refine⟨_,((pss_cons (ps_set (i:=3) sc__law_weighed.nd rfl (Or.inl rfl) pe_int)
  (pss_cons (ps_set (i:=4) sc__law_weighed.nd rfl (Or.inl rfl) pe_int)
  (pss_cons (ps_for PassesOwn.never rfl (pi_range1 rfl T.z_range (pa_cons (pe_callB call_len_seq rfl T.z_len bt_len (pa_cons (pv 0) pa_nil)) pa_nil)) (pg_name (i:=5) sc__law_weighed.nd rfl (Or.inl rfl)) (pss_cons (ps_set (i:=3) sc__law_weighed.nd rfl (Or.inl rfl) (pe_op op_add (pe_op op_mulZ (pv 3) (pe_ix ix_tup (pe_ix ix_list (pv 1) (pe_op op_add (pv 2) (pv 5)) (fun _ _=>rfl)) pe_int (fun _ _=>rfl))) (pe_op op_mulZ (pe_op op_mulZ (pe_call (FnOk.mono (ok__law_value T) (by decide)) hr rfl T.m__law_value T.F__law_value.kp T.b__law_value .nil pass0 (pa_cons (pe_ix ix_list (pv 0) (pv 5) (fun _ _=>rfl)) (pa_cons (pv 2) pa_nil))) (pe_ix ix_tup (pe_ix ix_list (pv 1) (pe_op op_add (pv 2) (pv 5)) (fun _ _=>rfl)) pe_int (fun _ _=>rfl))) (pv 4))))
  (pss_one (ps_set (i:=4) sc__law_weighed.nd rfl (Or.inl rfl) (pe_op op_mulZ (pv 4) (pe_ix ix_tup (pe_ix ix_list (pv 1) (pe_op op_add (pv 2) (pv 5)) (fun _ _=>rfl)) pe_int (fun _ _=>rfl)))))))
  (pss_one (ps_ret (pe_tup (pa_cons (pv 3) (pa_cons (pv 4) pa_nil))))))))),?_⟩
 k_units
 refine⟨_,.inl hR,?_⟩
 rw [List.length_map,hL.len,Int.toNat_natCast]
 refine⟨by omega,by omega,?_⟩
 have hC:=hT.part n ps.length
 have hcf:∀f∈(fs.drop n).take ps.length,Frc f∧Bd 20000 f.1∧Bd 2900 f.2:=fun f h=>by
  have h':=List.mem_of_mem_drop (List.mem_of_mem_take h)
  obtain⟨E1,e1,e2,e3⟩:=hf.2
  exact⟨(hf.1 f h').1,(hf.1 f h').2,Nat.lt_of_le_of_lt (Nat.le_of_dvd (by omega) (Int.natAbs_dvd_natAbs.mpr (e3 f h'))) e2⟩
 have lc:((fs.drop n).take ps.length).length=ps.length:=by rw [List.length_take,List.length_drop];omega
 have cg:∀i f,((fs.drop n).take ps.length)[i]?=some f->fs[n+i]?=some f:=fun i f h=>by
  have hi:i < ps.length:=by have:=(List.getElem?_eq_some_iff.mp h).1;omega
  rw [List.getElem?_take_of_lt hi,List.getElem?_drop] at h;exact h
 generalize (fs.drop n).take ps.length=c at hC hcf lc q cg
 obtain⟨Pv,hPv⟩:∃Pv:Nat->L2.St->Hp->Prop,∀i σ Hx,Pv i σ Hx↔∃(t b:Int) (r5:Option V),σ=[some (V.ref R),some (V.ref Vp),some (V.int n),some (V.int t),some (V.int b),r5]∧Hx=H∧t=Wm (lcmL (c.take i)) (((ps.map (val (n:Int))).zip c).take i)∧b=lcmL (c.take i)∧Bd (40000+3000 * i) t∧Bd (2900 * i+1) b:=⟨_,fun _ _ _=>Iff.rfl⟩
 refine lp_range Pv ((hPv _ _ _).mpr ⟨0,1,none,rfl,rfl,by simp [Wm],by simp [lcmL],Bd.zero _,Bd.one (by decide)⟩) ?_ ?_
 ·intro i σ Hx hi hpp
  obtain⟨t,b,r5,rfl,rfl,ht,hb,bt,bb⟩:=(hPv _ _ _).mp hpp
  have hic:i < c.length:=by omega
  have hgc:c[i]?=some c[i]:=List.getElem?_eq_getElem hic
  have hfi:=cg i c[i] hgc
  obtain⟨hnb,hfe⟩:=List.getElem?_eq_some_iff.mp hfi
  have hbb:n+i < bs.length:=by rw [hT.len];exact hnb
  have hia:i < as.length:=by rw [hL.len];exact hi
  have e1:(0:Int)+(i:Int)=(i:Int):=Int.zero_add _
  have e2:(n:Int)+(i:Int)=((n+i:Nat):Int):=rfl
  have atV:atI (bs.map V.ref) ((n+i:Nat):Int)=some (V.ref bs[n+i]):=by
   unfold atI
   rw [ixN_nat (by rw [List.length_map];exact hbb)]
   show (bs.map V.ref)[n+i]?=_
   rw [List.getElem?_map,List.getElem?_eq_getElem hbb];rfl
  have atR:atI (as.map V.ref) (i:Int)=some (V.ref as[i]):=by
   unfold atI
   rw [ixN_nat (by rw [List.length_map];exact hia)]
   show (as.map V.ref)[i]?=_
   rw [List.getElem?_map,List.getElem?_eq_getElem hia];rfl
  have sT:=hT.get (n+i) bs[n+i] c[i] (List.getElem?_eq_getElem hbb) hfi
  have sL:=hL.get i as[i] ps[i] (List.getElem?_eq_getElem hia) (List.getElem?_eq_getElem hi)
  have pok:=hp ps[i] (List.getElem_mem hi)
  have fok:=hcf c[i] (List.getElem_mem hic)
  have bn:Bd 9 (n:Int):=Bd.of_lt (m:=501) (by omega) (by decide)
  have bv:Bd 2000 (val (n:Int) ps[i]):=(val_bd bn _ pok.2).mono (by omega)
  (iterate 3 (k_units;(try simp only [e1,e2]));k_units)
  have bvx:=bv.mul fok.2.1
  refine⟨_,hV,_,atV,_,rfl,_,sT,_,rfl,_,rfl,bt.fits fok.2.2 (by omega),_,hR,_,atR,as[i],ps[i],n,1300,9,rfl,sL,pok.1,pok.2,bn,by decide,_,hV,_,atV,_,rfl,_,sT,_,rfl,_,rfl,_,rfl,bv.fits fok.2.1 (by decide),bvx.fits bb (by omega),_,hV,_,atV,_,rfl,_,sT,_,rfl,_,rfl,bb.fits fok.2.2 (by omega),(hPv _ _ _).mpr ⟨_,_,_,rfl,rfl,?_,?_,?_,(bb.mul fok.2.2).mono (by omega)⟩⟩
  ·have et:c.take (i+1)=c.take i++[c[i]]:=by rw [List.take_succ,hgc];rfl
   have ez:((ps.map (val (n:Int))).zip c).take (i+1)=((ps.map (val (n:Int))).zip c).take i++[(val (n:Int) ps[i],c[i])]:=by
    have e:((ps.map (val (n:Int))).zip c)[i]?=some (val (n:Int) ps[i],c[i]):=by
     rw [List.getElem?_zip_eq_some]
     exact⟨by rw [List.getElem?_map,List.getElem?_eq_getElem hi];rfl,hgc⟩
    rw [List.take_succ,e];rfl
   have hz:∀g∈((ps.map (val (n:Int))).zip c).take i,1<=g.2.2∧g.2.2∣lcmL (c.take i):=fun g hg=>by
    obtain⟨j,e⟩:=List.mem_iff_getElem?.mp hg
    have hj:j < i:=by have:=(List.getElem?_eq_some_iff.mp e).1;rw [List.length_take] at this;omega
    rw [List.getElem?_take_of_lt hj,List.getElem?_zip_eq_some] at e
    have m:g.2∈c.take i:=List.mem_iff_getElem?.mpr ⟨j,by rw [List.getElem?_take_of_lt hj];exact e.2⟩
    exact⟨(hcf g.2 (List.mem_of_mem_take m)).1.1,lcm_dvd _ g.2 m⟩
   rw [et,ez,lcm_snoc,Wm_snoc,Wm_scale hz,ht,hb]
   show _=_+val (n:Int) ps[i] * c[i].1 * (lcmL (c.take i) * c[i].2).fdiv c[i].2
   rw [Int.mul_fdiv_cancel _ (by have:=fok.1.1;omega)]
   grind
  ·rw [List.take_succ,hgc]
   show _=lcmL (c.take i++[c[i]])
   rw [lcm_snoc,hb]
  ·exact (((bt.mul fok.2.2).mono (l:=42950+3000 * i) (by omega)).add ((bvx.mul bb).mono (by omega))).mono (by omega)
 ·intro σ Hx hpp
  obtain⟨t,b,r5,rfl,rfl,ht,hb,bt,bb⟩:=(hPv _ _ _).mp hpp
  rw [← lc,List.take_length,List.take_of_length_le (by rw [List.length_zip,List.length_map];omega)] at ht
  k_units
  refine⟨by decide,fun p hp1=>q p _ (same_upd hp1 _) ?_⟩
  rw [upd_same,ht,hb,← lc,List.take_length]
structure Lst13 (ts:List Int):Prop where
 n:Nml ts
 l:ts.length<=3
 b:∀x∈ts,Bd 30 x
 c:clr 0 ts=true
theorem os_sign {ts:List Int} {e:Int} (he:e=1∨e=-1) (h0:0 < e * co ts 0) (h:∀x∈ts,0<=e * x):clr 0 ts=true:=by
 rw [clr_iff,shift_zero,← os_clear]
 refine⟨fun z=>by rw [z] at h0;simp at h0,fun j=>?_⟩
 have h1:0<=e * co ts j:=co_in (P:=fun x=>0<=e * x) h (by simp) j
 have h2:=Int.mul_nonneg h1 (Int.le_of_lt h0)
 have ee:e * e=1:=by rcases he with rfl | rfl <;> rfl
 have:e * co ts j * (e * co ts 0)=(e * e) * (co ts j * co ts 0):=by grind
 rw [this,ee,Int.one_mul] at h2;exact h2
theorem lst_one:Lst13 [1]:=⟨nml_one1 [],by simp,fun x hx=>by rw [List.mem_singleton.mp hx];exact Bd.one (by decide),os_sign (e:=1) (.inl rfl) (by decide) (by simp)⟩
def spLast (K:W.Frag):Sp:=fun vs H Q _=>∃c:Int,vs=[.int c]∧∀ts,Lst13 ts->newL H Q (ts.map V.int)
theorem ok__law_last {P:Program} {w:World} {K:W.Frag} {mg:Str->Option Value} {base:Heap} (T:Tx K mg):FnOk P w K mg base CX0 2 T.a__law_last T.fd__law_last ["_law_cell"] (spLast K):=by
 refine T.F__law_last.ok sc__law_last (fun vs H Q E h=>?_) (fun cdv A outer s H vs Q E hr h=>?_)
 ·obtain⟨c,rfl,_⟩:=h
  rfl
 obtain⟨c,rfl,q⟩:=h
 refine⟨_,((pss_cons (ps_if (pt_cmpR op_eq (pe_op op_mod (pv 0) pe_int) pe_int (nomark _)) (pss_one (ps_ret (pe_lst (pa_cons pe_int pa_nil)))) pss_nil)
  (pss_cons (ps_set (i:=1) sc__law_last.nd rfl (Or.inl rfl) (pe_call (FnOk.mono (ok__law_cut T) (by decide)) hr rfl T.m__law_cut T.F__law_cut.kp T.b__law_cut .nil pass0 (pa_cons (pe_lst (pa_cons (pe_op op_add pe_int (pe_op op_mod (pe_op op_fdiv (pv 0) pe_int) pe_int)) (pa_cons (pe_op op_mod (pe_op op_fdiv (pv 0) pe_int) pe_int) (pa_cons (pe_op op_mod (pe_op op_fdiv (pv 0) pe_int) pe_int) pa_nil)))) pa_nil)))
  (pss_mid (ps_if (pt_cmpR op_eq (pe_op op_mod (pe_op op_fdiv (pv 0) pe_int) pe_int) pe_int (nomark _)) (pss_one (ps_asg (pe_op op_add pe_int (pe_op op_mod (pe_op op_fdiv (pv 0) pe_int) (pe_op op_pow pe_int pe_int))) (pg_sub (pv 1) pe_int set_list))) pss_nil)
  (pss_mid (ps_if (pt_cmpR op_eq (pe_op op_mod (pv 0) pe_int) pe_int (nomark _)) (pss_one (ps_setC (i:=1) rfl (blkok rfl sub_nil fv_nil) (pi_list (pv 1)) (fun _ _ _ _=>(pe_un un_neg (pv 0))) sc__law_last.nd rfl rfl)) pss_nil)
  (pss_one (ps_ret (pv 1)))))))),?_⟩
 k_units
 have d:∀k:Int,0 < k->k < 1073741824->CDiv c k:=fun k h1 h2=>⟨h1,h2⟩
 refine⟨by decide,ite2 (fun h=>⟨by decide,fun p np=>q [1] lst_one p _ (same_upd np _) np upd_same⟩) (fun h=>⟨d _ (by decide) (by decide),by decide,d _ (by decide) (by decide),by decide,d _ (by decide) (by decide),by decide,by decide,fun p np=>?_⟩)⟩
 have u1:=same_upd np (.lst [V.int (1+c / 3 % 9),V.int (c / 27 % 4),V.int (c / 108 % 3)])
 refine⟨p,[1+c / 3 % 9,c / 27 % 4,c / 108 % 3],rfl,SqL.of upd_same,by simp,fun F H1 s1 nF eF=>?_⟩
 obtain⟨x,rest,ht,x1,x9,lr,hr'⟩:∃x rest,trim [1+c / 3 % 9,c / 27 % 4,c / 108 % 3]=x :: rest∧1<=x∧x<=9∧rest.length<=2∧∀v∈rest,0<=v∧v<=9:=by
  have hc:=trim_co [1+c / 3 % 9,c / 27 % 4,c / 108 % 3] 0
  have hl:=trim_len [1+c / 3 % 9,c / 27 % 4,c / 108 % 3]
  have hm:∀v∈trim [1+c / 3 % 9,c / 27 % 4,c / 108 % 3],0<=v∧v<=9:=in_co fun j=>by
   rw [trim_co]
   exact co_in (P:=fun v:Int=>0<=v∧v<=9) (fun v hv=>by simp at hv;omega) (by decide) j
  generalize trim [1+c / 3 % 9,c / 27 % 4,c / 108 % 3]=ts at hc hl hm
  cases ts with
  | nil=>simp [co] at hc;omega
  | cons x rest=>
   have hx:x=1+c / 3 % 9:=hc
   exact⟨x,rest,rfl,by omega,by omega,by simpa using hl,fun v hv=>hm v (by simp [hv])⟩
 have nt:=trim_nml [1+c / 3 % 9,c / 27 % 4,c / 108 % 3]
 rw [ht] at eF nt
 have s01:=u1.trans s1
 have nF0:H F=none:=u1.free nF
 obtain⟨M,hM⟩:∃M:L2.St->Hp->Prop,∀σ Hx,M σ Hx↔∃x:Int,σ=[some (V.int c),some (V.ref F)]∧Hx F=some (.lst ((x :: rest).map V.int))∧1<=x∧x<=1000000000∧Same H Hx:=⟨_,fun _ _=>Iff.rfl⟩
 refine mid_of M ?_ ?_
 ·k_units
  refine⟨d _ (by decide) (by decide),by decide,ite2 (fun h7=>?_) (fun h7=>(hM _ _).mpr ⟨x,rfl,eF,x1,by omega,s01⟩)⟩
  have e9:(10:Int) ^ Int.toNat 9=1000000000:=rfl
  rw [e9]
  refine⟨d _ (by decide) (by decide),⟨by decide,by decide,by decide⟩,by decide,_,eF,0,(show ixN ((x :: rest).map V.int).length ((0:Nat):Int)=some 0 from ixN_nat (by simp)),(hM _ _).mpr ⟨1+c / 2592 % 1000000000,rfl,by rw [upd_same];rfl,by omega,by omega,s01.more nF0⟩⟩
 intro σ Hx hm
 obtain⟨x,rfl,eF,x1,x9,sx⟩:=(hM _ _).mp hm
 clear hm hM M
 have nx:Nml (x :: rest):=nml_last.mpr fun v hv=>by
  cases rest with
  | nil=>simp at hv;omega
  | cons y rs=>
   have:=nml_last.mp nt v (by simpa using hv)
   exact this
 have one:Lst13 (x :: rest):=⟨nx,by simp;omega,fun v hv=>by
  rcases List.mem_cons.mp hv with rfl | hv
  ·exact Bd.of_lt (m:=1000000001) (by omega) (by decide)
  ·have:=hr' v hv;exact Bd.of_lt (m:=10) (by omega) (by decide),os_sign (e:=1) (.inl rfl) (by show 0 < 1 * x;omega) fun v hv=>by
  rcases List.mem_cons.mp hv with rfl | hv
  ·omega
  ·have:=hr' v hv;omega⟩
 obtain⟨M,hM⟩:∃M:L2.St->Hp->Prop,∀σ Hy,M σ Hy↔∃(G:Addr) (ts:List Int),σ=[some (V.int c),some (V.ref G)]∧Hy G=some (.lst (ts.map V.int))∧Lst13 ts∧H G=none∧Same H Hy:=⟨_,fun _ _=>Iff.rfl⟩
 refine mid_of M ?_ ?_
 ·k_units
  refine⟨by decide,ite2 (fun h2=>⟨⟨_,SqL.of eF⟩,fun D nD=>?_⟩) (fun h2=>(hM _ _).mpr ⟨F,x :: rest,rfl,eF,one,nF0,sx⟩)⟩
  refine cl_ints (g:=fun v=>-v) nD (SqL.of eF) (by simp;omega) (fun v hv Hz R' sz hR=>?_) fun G H5 s5 nG eG=>(hM _ _).mpr ⟨G,(x :: rest).map (fun v=>-v),rfl,eG,⟨?_,?_,?_,?_⟩,sx.free nG,sx.trans s5⟩
  ·(iterate 3 (k_units;(try simp only [bst,Option.getD_some]));k_units);exact hR
  ·have en:(x :: rest).map (fun v:Int=>-v)=(x :: rest).map fun v=>(-1) * v:=by congr 1;funext v;omega
   rw [en];exact nml_of_last (.inr (by rw [List.length_map,co_mapc];exact Int.mul_ne_zero (by decide) (co_last nx (by simp))))
  ·rw [List.length_map];simp;omega
  ·intro v hv;obtain⟨y,hy,rfl⟩:=List.mem_map.mp hv;exact (one.b y hy).neg
  ·refine os_sign (e:=-1) (.inr rfl) (by show 0 < -1 * -x;omega) fun v hv=>?_
   obtain⟨y,hy,rfl⟩:=List.mem_map.mp hv
   rcases List.mem_cons.mp hy with rfl | hy
   ·omega
   ·have:=hr' y hy;omega
 intro σ Hy hm
 obtain⟨G,ts,rfl,eG,hts,nG,sy⟩:=(hM _ _).mp hm
 k_units
 exact q ts hts G _ sy nG eG
structure Prt13 (ps:List (List Int)) (far:Bool):Prop where
 ne:ps≠[]
 l5:ps.length<=5
 n:∀p∈ps,Nml p
 l:∀p∈ps,p.length<=3
 b:∀p∈ps,∀x∈p,Bd 60 x
 t:Lst13 (ps.getLastD [])
 f:far=true->ps.getLastD []=[1]
theorem prt_mk {qs:List (List Int)} {ts:List Int} {far:Bool} (l:qs.length<=4) (bq:∀p∈qs,Nml p∧p.length<=3∧∀x∈p,Bd 60 x) (ht:Lst13 ts) (hf:far=true->ts=[1]):Prt13 (qs++[ts]) far:=by
 have el:(qs++[ts]).getLastD []=ts:=by rw [List.getLastD_eq_getLast?,List.getLast?_concat];rfl
 have all:∀p∈qs++[ts],Nml p∧p.length<=3∧∀x∈p,Bd 60 x:=fun p hp=>by
  rcases List.mem_append.mp hp with z | z
  ·exact bq p z
  ·rw [List.mem_singleton.mp z];exact⟨ht.n,ht.l,fun x hx=>(ht.b x hx).mono (by decide)⟩
 exact⟨by simp,by simp;omega,fun p hp=>(all p hp).1,fun p hp=>(all p hp).2.1,fun p hp=>(all p hp).2.2,by rw [el];exact ht,by rw [el];exact hf⟩
def far13 (ns:List Int):Bool:=decide (cell ns 1 / 4 % 3=2)
def spPrt13 (K:W.Frag):Sp:=fun vs H Q _=>∃(a:Addr) (ns:List Int),vs=[.ref a]∧SqL K H a (ns.map V.int)∧∀ps:List (List Int),Prt13 ps (far13 ns)->∀(R:Addr) (as:List Addr) H',Same H H'->H' R=some (.lst (as.map V.ref))->LH H' as ps->Q (.ref R) H'
theorem ok__law_parts {P:Program} {w:World} {K:W.Frag} {mg:Str->Option Value} {base:Heap} (T:Tx K mg):FnOk P w K mg base CX0 3 T.a__law_parts T.fd__law_parts ["_law_script"] (spPrt13 K):=by
 refine T.F__law_parts.ok sc__law_parts (fun vs H Q E h=>?_) (fun cdv A outer s H vs Q E hr h=>?_)
 ·obtain⟨a,ns,rfl,_⟩:=h
  rfl
 obtain⟨a,ns,rfl,hA,q⟩:=h
 refine⟨_,((pss_cons (ps_set (i:=1) sc__law_parts.nd rfl (Or.inl rfl) (pe_cmpR op_eq (pe_op op_mod (pe_op op_fdiv (pe_call (FnOk.mono (ok__law_cell_at T) (by decide)) hr rfl T.m__law_cell_at T.F__law_cell_at.kp T.b__law_cell_at .nil pass0 (pa_cons (pv 0) (pa_cons pe_int pa_nil))) pe_int) pe_int) pe_int (nomark _)))
  (pss_cons (ps_set (i:=2) sc__law_parts.nd rfl (Or.inl rfl) (pe_lst pa_nil))
  (pss_cons (ps_for PassesOwn.never rfl (pi_range1 rfl T.z_range (pa_cons (pe_op op_mod (pe_call (FnOk.mono (ok__law_cell_at T) (by decide)) hr rfl T.m__law_cell_at T.F__law_cell_at.kp T.b__law_cell_at .nil pass0 (pa_cons (pv 0) (pa_cons pe_int pa_nil))) pe_int) pa_nil)) (pg_name (i:=3) sc__law_parts.nd rfl (Or.inr rfl)) (pss_cons (ps_set (i:=4) sc__law_parts.nd rfl (Or.inl rfl) (pe_op op_mod (pe_call (FnOk.mono (ok__law_cell_at T) (by decide)) hr rfl T.m__law_cell_at T.F__law_cell_at.kp T.b__law_cell_at .nil pass0 (pa_cons (pv 0) (pa_cons (pe_op op_add pe_int (pe_op op_mul pe_int (pv 3))) pa_nil))) pe_int))
  (pss_cons (ps_set (i:=5) sc__law_parts.nd rfl (Or.inl rfl) (pe_op op_mod (pe_op op_mod (pe_op op_mul (pe_op op_add (pe_op op_mulZ (pv 4) (pv 4)) pe_int) pe_int) pe_int) pe_int))
  (pss_cons (ps_setC (i:=6) rfl (blkok rfl (sub_cons rfl (sub_cons rfl sub_nil)) (fv_cons 0 "_law_script" (by decide) rfl (Or.inl rfl) (Or.inl rfl) ⟨_,rfl⟩ (fv_cons 3 "_law_i" (by decide) rfl (Or.inl rfl) (Or.inl rfl) ⟨_,rfl⟩ fv_nil))) (pi_range1 rfl T.z_range (pa_cons (pv 5) pa_nil)) (fun _ _ _ _=>(pe_call (FnOk.mono (ok__law_number T) (by decide)) hr rfl T.m__law_number T.F__law_number.kp T.b__law_number .nil pass0 (pa_cons (pe_call (FnOk.mono (ok__law_cell_at T) (by decide)) hr rfl T.m__law_cell_at T.F__law_cell_at.kp T.b__law_cell_at .nil pass0 (pa_cons (pv 1) (pa_cons (pe_op op_add (pe_op op_add pe_int (pe_op op_mul pe_int (pv 2))) (pv 0)) pa_nil))) (pa_cons (pe_op op_pow pe_int pe_int) pa_nil)))) sc__law_parts.nd rfl rfl)
  (pss_mid (ps_if (pt_val (pv 1)) (pss_one (ps_setC (i:=6) rfl (blkok rfl (sub_cons rfl (sub_cons rfl sub_nil)) (fv_cons 0 "_law_script" (by decide) rfl (Or.inl rfl) (Or.inl rfl) ⟨_,rfl⟩ (fv_cons 3 "_law_i" (by decide) rfl (Or.inl rfl) (Or.inl rfl) ⟨_,rfl⟩ fv_nil))) (pi_range1 rfl T.z_range (pa_cons (pe_op op_mod (pv 5) pe_int) pa_nil)) (fun _ _ _ _=>(pe_op op_sub (pe_op op_mod (pe_call (FnOk.mono (ok__law_cell_at T) (by decide)) hr rfl T.m__law_cell_at T.F__law_cell_at.kp T.b__law_cell_at .nil pass0 (pa_cons (pv 1) (pa_cons (pe_op op_add (pe_op op_add pe_int (pe_op op_mul pe_int (pv 2))) (pv 0)) pa_nil))) pe_int) pe_int)) sc__law_parts.nd rfl rfl)) pss_nil)
  (pss_one (ps_expr (pe_bm PySem.F.plainAttrs_list PySem.F.slot_list_append PySem.F.type_list_append mt_append (pv 2) (pa_cons (pe_call (FnOk.mono (ok__law_cut T) (by decide)) hr rfl T.m__law_cut T.F__law_cut.kp T.b__law_cut .nil pass0 (pa_cons (pv 6) pa_nil)) pa_nil)))))))))
  (pss_cons (ps_if (pt_val (pv 1)) (pss_one (ps_ret (pe_op op_cat (pv 2) (pe_lst (pa_cons (pe_lst (pa_cons pe_int pa_nil)) pa_nil))))) pss_nil)
  (pss_one (ps_ret (pe_op op_cat (pv 2) (pe_lst (pa_cons (pe_call (FnOk.mono (ok__law_last T) (by decide)) hr rfl T.m__law_last T.F__law_last.kp T.b__law_last .nil pass0 (pa_cons (pe_call (FnOk.mono (ok__law_cell_at T) (by decide)) hr rfl T.m__law_cell_at T.F__law_cell_at.kp T.b__law_cell_at .nil pass0 (pa_cons (pv 0) (pa_cons pe_int pa_nil))) pa_nil)) pa_nil)))))))))),?_⟩
 k_units
 have bi:∀{x y:Int},(decide (x=y))=true↔x=y:=fun {x y}=>decide_eq_true_iff
 refine⟨a,ns,1,rfl,hA,_,rfl,⟨by decide,by decide⟩,by decide,Nat.zero_le _,fun D nD=>⟨a,ns,0,rfl,(same_upd nD _).seq hA,_,rfl,by decide,by omega,by omega,?_⟩⟩
 have efar:decide (cell ns 1 / 4 % 3=2)=far13 ns:=rfl
 rw [efar]
 obtain⟨far,hfar⟩:∃far,far13 ns=far:=⟨_,rfl⟩
 rw [hfar] at q ⊢
 have k5:(cell ns 0 % 5).toNat<=4:=by omega
 generalize (cell ns 0 % 5).toNat=k at k5
 obtain⟨Pv,hPv⟩:∃Pv:Nat->L2.St->Hp->Prop,∀i σ H',Pv i σ H'↔∃(bs:List Addr) (qs:List (List Int)) (r3 r4 r5 r6:Option V),σ=[some (V.ref a),some (V.bl far),some (V.ref D),r3,r4,r5,r6]∧H' D=some (.lst (bs.map V.ref))∧LH H' bs qs∧qs.length=i∧(∀p∈qs,Nml p∧p.length<=3∧∀x∈p,Bd 60 x)∧D∉bs∧Same H H':=⟨_,fun _ _ _=>Iff.rfl⟩
 refine lp_range Pv ((hPv _ _ _).mpr ⟨[],[],none,none,none,none,rfl,upd_same,LH.nil _,rfl,by simp,by simp,same_upd nD _⟩) ?_ ?_
 ·intro i σ H' hi hp
  obtain⟨bs,qs,r3,r4,r5,r6,rfl,eD,lhb,lq,bq,nb,sP⟩:=(hPv _ _ _).mp hp
  have e6:(6:Int)+3 * (0+(i:Int))=((6+3 * i:Nat):Int):=by omega
  (iterate 3 (k_units;(try simp only [e6]));k_units)
  refine⟨.inl ⟨by decide,by decide⟩,a,ns,6+3 * i,rfl,sP.seq hA,_,rfl,by decide,?_⟩
  obtain⟨m,hm,m0,m1⟩:∃m:Int,cell ns (6+3 * i) % 2147483647=m∧0<=m∧m < 2147483647:=⟨_,rfl,by omega,by omega⟩
  rw [hm]
  have bm:Bd 31 m:=Bd.of_lt (m:=2147483647) (by omega) (by decide)
  refine⟨bm.fits bm (by decide),.inr ⟨by decide,by decide⟩,by decide,by decide,?_⟩
  obtain⟨mn,hmn,mn3⟩:∃mn:Nat,(m * m+5) * 69621 % 2147483629 % 4=(mn:Int)∧mn<=3:=by
   generalize (m * m+5) * 69621 % 2147483629=z
   exact⟨(z % 4).toNat,by omega,by omega⟩
  rw [hmn]
  rw [Int.toNat_natCast]
  refine⟨by omega,by omega,fun D1 nD1=>cl_rngP (Pd:=fun v=>Bd 60 v) nD1 (by omega) (fun j hj Hx R' sx hR=>?_) fun ys ly by' F1 H1 s1 nF1 eF1=>?_⟩
  ·have e7:(6:Int)+3 * (0+(i:Int))+(0+(j:Int))=((6+3 * i+j:Nat):Int):=by omega
   (iterate 3 (k_units;(try simp only [bst,Option.getD_some,e7]));k_units)
   exact⟨.inl ⟨by decide,by decide⟩,a,ns,6+3 * i+j,rfl,(sP.trans sx).seq hA,⟨by decide,by decide,by decide⟩,_,10 ^ 18,rfl,.inr rfl,fun n hn=>hR n (Bd.of_lt hn (by decide))⟩
  obtain⟨M,hM⟩:∃M:L2.St->Hp->Prop,∀σ Hx,M σ Hx↔∃(F:Addr) (ys:List Int),σ=[some (V.ref a),some (V.bl far),some (V.ref D),some (V.int (0+(i:Int))),some (V.int m),some (V.int mn),some (V.ref F)]∧Hx F=some (.lst (ys.map V.int))∧ys.length<=3∧(∀y∈ys,Bd 60 y)∧Same H' Hx:=⟨_,fun _ _=>Iff.rfl⟩
  refine mid_of M ?_ ?_
  ·k_units
   refine ite2 (fun hf=>⟨by decide,by omega,by omega,fun D2 nD2=>?_⟩) (fun hf=>(hM _ _).mpr ⟨F1,ys,rfl,eF1,by omega,by',s1⟩)
   have m3:((mn:Int) % 3).toNat<=3:=by omega
   generalize ((mn:Int) % 3).toNat=m2 at m3
   refine cl_rngP (Pd:=fun v=>Bd 60 v) nD2 (by omega) (fun j hj Hx R' sx hR=>?_) fun zs lz bz F2 H2 s2 nF2 eF2=>(hM _ _).mpr ⟨F2,zs,rfl,eF2,by omega,bz,s1.trans s2⟩
   have e7:(6:Int)+3 * (0+(i:Int))+(0+(j:Int))=((6+3 * i+j:Nat):Int):=by omega
   (iterate 3 (k_units;(try simp only [bst,Option.getD_some,e7]));k_units)
   exact⟨.inl ⟨by decide,by decide⟩,a,ns,6+3 * i+j,rfl,(sP.trans (s1.trans sx)).seq hA,_,rfl,by decide,hR _ (Bd.of_lt (m:=3) (by omega) (by decide))⟩
  intro σ H2 hm2
  obtain⟨F,zs,rfl,eF,lz,bz,s2⟩:=(hM _ _).mp hm2
  clear hm2 hM M
  have eD2:=s2 _ _ eD
  k_units
  refine⟨a_tyL (SqL.of eD2),F,zs,rfl,SqL.of eF,by omega,fun G H3 s3 nG eG=>?_⟩
  have s23:=s2.trans s3
  have nGD:G≠D:=fun z=>by rw [z,eD2] at nG;cases nG
  have m1:D∉bs++[G]:=fun z=>by
   rcases List.mem_append.mp z with z | z
   ·exact nb z
   ·exact nGD (List.mem_singleton.mp z).symm
  have lbb:=lhb.len
  refine⟨_,s23 _ _ eD,by rw [List.length_map];exact small1000 (by omega),(hPv _ _ _).mpr ⟨bs++[G],qs++[trim zs],_,_,_,_,rfl,by rw [upd_same];simp,((lhb.same s23).snoc eG).upd m1,by simp [lq],fun p hp'=>?_,m1,(sP.trans s23).more nD⟩⟩
  rcases List.mem_append.mp hp' with z | z
  ·exact bq p z
  ·rw [List.mem_singleton.mp z]
   refine⟨trim_nml _,Nat.le_trans (trim_len _) lz,in_co fun j=>?_⟩
   rw [trim_co];exact co_in (P:=fun v=>Bd 60 v) bz (Bd.zero _) j
 ·intro σ H' hp
  obtain⟨bs,qs,r3,r4,r5,r6,rfl,eD,lhb,lq,bq,nb,sP⟩:=(hPv _ _ _).mp hp
  have lbb:=lhb.len
  have cat:∀(ts:List Int) (G:Addr) (Hx:Hp),Lst13 ts->(far=true->ts=[1])->Same H' Hx->Hx G=some (.lst (ts.map V.int))->∀p,Hx p=none->
    ∃x_1,upd Hx p (.lst [V.ref G]) D=some (.lst x_1)∧∃x_2,upd Hx p (.lst [V.ref G]) p=some (.lst x_2)∧x_1.length+x_2.length<=sizeLine∧∀p_1,upd Hx p (.lst [V.ref G]) p_1=none->Q (V.ref p_1) (upd (upd Hx p (.lst [V.ref G])) p_1 (.lst (x_1++x_2))):=fun ts G Hx ht hf sx eG p np=>by
   have w1:=same_upd np (.lst [V.ref G])
   refine⟨_,w1 _ _ (sx _ _ eD),_,upd_same,by rw [List.length_map,List.length_singleton];exact Nat.le_of_lt (small1000 (by omega)),fun p1 np1=>?_⟩
   have w2:=same_upd np1 (.lst (bs.map V.ref++[V.ref G]))
   have w12:=w1.trans w2
   refine q (qs++[ts]) (prt_mk (by omega) bq ht hf) p1 (bs++[G]) _ (sP.trans (sx.trans w12)) (by rw [upd_same];simp) ((lhb.same (sx.trans w12)).snoc (w12 _ _ eG))
  k_units
  refine ite2 (fun hf=>⟨by decide,fun p np=>⟨by decide,fun p1 np1=>?_⟩⟩) (fun hf=>⟨a,ns,4,rfl,sP.seq hA,_,rfl,fun ts hts G H1 s1 nG eG=>⟨by decide,fun p np=>?_⟩⟩)
  ·exact cat [1] p _ lst_one (fun _=>rfl) (same_upd np _) upd_same p1 np1
  ·exact cat ts G H1 hts (fun z=>absurd z hf) s1 eG p np
def spRoots (K:W.Frag):Sp:=fun vs H Q _=>∃(a:Addr) (ns:List Int),vs=[.ref a]∧SqL K H a (ns.map V.int)∧∀rs:List Int,rs.length<=3->(∀r∈rs,0<=r∧r < if far13 ns=true then 60 else 6)->newL H Q (rs.map V.int)
theorem ok__law_roots {P:Program} {w:World} {K:W.Frag} {mg:Str->Option Value} {base:Heap} (T:Tx K mg):FnOk P w K mg base CX0 2 T.a__law_roots T.fd__law_roots ["_law_script"] (spRoots K):=by
 refine T.F__law_roots.ok sc__law_roots (fun vs H Q E h=>?_) (fun cdv A outer s H vs Q E hr h=>?_)
 ·obtain⟨a,ns,rfl,_⟩:=h
  rfl
 obtain⟨a,ns,rfl,hA,q⟩:=h
 refine⟨_,((pss_cons (ps_set (i:=1) sc__law_roots.nd rfl (Or.inl rfl) (pe_call (FnOk.mono (ok__law_cell_at T) (by decide)) hr rfl T.m__law_cell_at T.F__law_cell_at.kp T.b__law_cell_at .nil pass0 (pa_cons (pv 0) (pa_cons pe_int pa_nil))))
  (pss_cons (ps_set (i:=2) sc__law_roots.nd rfl (Or.inr rfl) pe_int)
  (pss_mid (ps_if (pt_cmpR op_eq (pe_op op_mod (pe_op op_fdiv (pv 1) pe_int) pe_int) pe_int (nomark _)) (pss_one (ps_set (i:=2) sc__law_roots.nd rfl (Or.inr rfl) pe_int)) pss_nil)
  (pss_cons (ps_set (i:=3) sc__law_roots.nd rfl (Or.inl rfl) (pe_lst (pa_cons (pe_call (FnOk.mono (ok__law_cell_at T) (by decide)) hr rfl T.m__law_cell_at T.F__law_cell_at.kp T.b__law_cell_at .nil pass0 (pa_cons (pv 0) (pa_cons pe_int pa_nil))) (pa_cons (pe_op op_fdivB (pe_call (FnOk.mono (ok__law_cell_at T) (by decide)) hr rfl T.m__law_cell_at T.F__law_cell_at.kp T.b__law_cell_at .nil pass0 (pa_cons (pv 0) (pa_cons pe_int pa_nil))) (pv 2)) (pa_cons (pe_call (FnOk.mono (ok__law_cell_at T) (by decide)) hr rfl T.m__law_cell_at T.F__law_cell_at.kp T.b__law_cell_at .nil pass0 (pa_cons (pv 0) (pa_cons pe_int pa_nil))) pa_nil)))))
  (pss_cons (ps_set (i:=4) sc__law_roots.nd rfl (Or.inl rfl) (pe_slice sl_list (pe_lcomp rfl (blkok rfl (sub_cons rfl sub_nil) (fv_cons 2 "_law_most" (by decide) rfl (Or.inl rfl) (Or.inl rfl) ⟨_,rfl⟩ fv_nil)) (pi_list (pv 3)) (fun _ _ _ _=>(pe_op op_mod (pv 0) (pv 1)))) po_none (po_some (pe_op op_mod (pv 1) pe_int))))
  (pss_mid (ps_if (PW.pt (pw_and (pt_cmpR op_eq (pv 2) pe_int (nomark _)) (pw_and (pt_cmpR (op_neD hr.units) (pv 4) (pe_lst pa_nil) (nomark _)) (pw_and1 (pt_cmpR op_eq (pe_op op_mod (pe_op op_fdiv (pv 1) pe_int) pe_int) pe_int (nomark _)))))) (pss_one (ps_asg pe_int (pg_sub (pv 4) pe_int set_list))) pss_nil)
  (pss_one (ps_ret (pv 4)))))))))),?_⟩
 k_units
 refine⟨a,ns,1,rfl,hA,?_⟩
 obtain⟨mo,hmo,mo0⟩:∃mo:Int,mo=(if far13 ns=true then 60 else 6)∧0 < mo:=⟨_,rfl,by split <;> decide⟩
 rw [← hmo] at q
 obtain⟨M,hM⟩:∃M:L2.St->Hp->Prop,∀σ Hx,M σ Hx↔σ=[some (V.ref a),some (V.int (cell ns 1)),some (V.int mo),none,none]∧Hx=H:=⟨_,fun _ _=>Iff.rfl⟩
 refine mid_of M ?_ ?_
 ·k_units
  refine⟨⟨by decide,by decide⟩,by decide,ite2 (fun h=>(hM _ _).mpr ⟨?_,rfl⟩) (fun h=>(hM _ _).mpr ⟨?_,rfl⟩)⟩
  ·rw [hmo,if_pos (by unfold far13;exact decide_eq_true h)]
  ·rw [hmo,if_neg (by unfold far13;rw [decide_eq_true_iff];exact h)]
 intro σ Hx hm
 obtain⟨rfl,rfl⟩:=(hM _ _).mp hm
 clear hm hM M
 k_units
 have mo60:mo<=60:=by rw [hmo];split <;> decide
 have mos:mo.natAbs < 2 ^ 9000:=Nat.lt_of_lt_of_le (show mo.natAbs < 2 ^ 7 by omega) (Nat.pow_le_pow_right (by decide) (by decide))
 refine⟨a,ns,2,rfl,hA,a,ns,2,rfl,hA,_,rfl,by omega,mos,a,ns,3,rfl,hA,by decide,fun p np=>⟨⟨_,SqL.of upd_same⟩,fun D nD=>?_⟩⟩
 have u1:=same_upd np (.lst [V.int (cell ns 2),V.int ((cell ns 2).fdiv mo),V.int (cell ns 3)])
 refine cl_ints (xs:=[cell ns 2,(cell ns 2).fdiv mo,cell ns 3]) (g:=fun v=>v % mo) nD (SqL.of upd_same) (by simp) (fun v hv Hz R' sz hR=>?_) fun F H2 s2 nF eF=>⟨by decide,F,rfl,_,SqL.of eF,fun p1 np1=>?_⟩
 ·(iterate 3 (k_units;(try simp only [bst,Option.getD_some]));k_units);exact⟨mo0,hR⟩
 rw [cutV_map]
 have hb:∀r∈(([cell ns 2,(cell ns 2).fdiv mo,cell ns 3].map fun v=>v % mo).drop (HT.sIx ([cell ns 2,(cell ns 2).fdiv mo,cell ns 3].map fun v=>v % mo).length 0 none)).take (HT.sIx ([cell ns 2,(cell ns 2).fdiv mo,cell ns 3].map fun v=>v % mo).length ([cell ns 2,(cell ns 2).fdiv mo,cell ns 3].map fun v=>v % mo).length (some (cell ns 1 % 4)) - HT.sIx ([cell ns 2,(cell ns 2).fdiv mo,cell ns 3].map fun v=>v % mo).length 0 none),0<=r∧r < mo:=fun r hr'=>by
  have h1:=List.mem_of_mem_drop (List.mem_of_mem_take hr')
  obtain⟨y,_,rfl⟩:=List.mem_map.mp h1
  exact⟨Int.emod_nonneg _ (by omega),Int.emod_lt_of_pos _ mo0⟩
 have hl3:((([cell ns 2,(cell ns 2).fdiv mo,cell ns 3].map fun v=>v % mo).drop (HT.sIx ([cell ns 2,(cell ns 2).fdiv mo,cell ns 3].map fun v=>v % mo).length 0 none)).take (HT.sIx ([cell ns 2,(cell ns 2).fdiv mo,cell ns 3].map fun v=>v % mo).length ([cell ns 2,(cell ns 2).fdiv mo,cell ns 3].map fun v=>v % mo).length (some (cell ns 1 % 4)) - HT.sIx ([cell ns 2,(cell ns 2).fdiv mo,cell ns 3].map fun v=>v % mo).length 0 none)).length<=3:=by
  rw [List.length_take,List.length_drop,List.length_map];simp only [List.length_cons,List.length_nil];omega
 generalize (([cell ns 2,(cell ns 2).fdiv mo,cell ns 3].map fun v=>v % mo).drop (HT.sIx ([cell ns 2,(cell ns 2).fdiv mo,cell ns 3].map fun v=>v % mo).length 0 none)).take (HT.sIx ([cell ns 2,(cell ns 2).fdiv mo,cell ns 3].map fun v=>v % mo).length ([cell ns 2,(cell ns 2).fdiv mo,cell ns 3].map fun v=>v % mo).length (some (cell ns 1 % 4)) - HT.sIx ([cell ns 2,(cell ns 2).fdiv mo,cell ns 3].map fun v=>v % mo).length 0 none)=rs at hb hl3 ⊢
 have s12:=u1.trans s2
 have np0:Hx p1=none:=s12.free np1
 have w1:=same_upd np1 (.lst (rs.map V.int))
 obtain⟨M,hM⟩:∃M:L2.St->Hp->Prop,∀σ Hy,M σ Hy↔∃rs:List Int,σ=[some (V.ref a),some (V.int (cell ns 1)),some (V.int mo),some (V.ref p),some (V.ref p1)]∧Hy p1=some (.lst (rs.map V.int))∧rs.length<=3∧(∀r∈rs,0<=r∧r < mo)∧Same Hx Hy:=⟨_,fun _ _=>Iff.rfl⟩
 have no:∀Hy,Same (upd H2 p1 (.lst (rs.map V.int))) Hy->M [some (V.ref a),some (V.int (cell ns 1)),some (V.int mo),some (V.ref p),some (V.ref p1)] Hy:=fun Hy sy=>(hM _ _).mpr ⟨rs,rfl,sy _ _ upd_same,hl3,hb,s12.trans (w1.trans sy)⟩
 refine mid_of M ?_ ?_
 ·k_units
  refine ite2 (fun h60=>⟨Nat.zero_le _,fun p2 np2=>?_⟩) (fun h60=>no _ (Same.refl _))
  have w2:=same_upd np2 (.lst [])
  refine⟨_,DV.ints (SqL.of (w2 _ _ upd_same)),_,DV.ints (ns:=[]) (SqL.of upd_same),lay_self _,lay_self _,dep_self _,?_⟩
  rw [eqv_dec]
  refine ite2 (fun hn=>⟨⟨by decide,by decide⟩,by decide,ite2 (fun h1=>?_) (fun h1=>no _ w2)⟩) (fun hn=>no _ w2)
  have rne:rs≠[]:=fun z=>by rw [z] at hn;simp at hn
  have e5:=w2 _ _ (upd_same (H:=H2) (a:=p1) (o:=.lst (rs.map V.int)))
  refine⟨_,e5,0,(show ixN (rs.map V.int).length ((0:Nat):Int)=some 0 from ixN_nat (by rw [List.length_map];exact List.length_pos_iff.mpr rne)),(hM _ _).mpr ⟨rs.set 0 59,rfl,by rw [upd_same,map_set],by rw [List.length_set];exact hl3,fun r hr'=>?_,(s12.trans (w1.trans w2)).more np0⟩⟩
  rcases List.mem_or_eq_of_mem_set hr' with z | z
  ·exact hb r z
  ·omega
 intro σ Hy hm
 obtain⟨rs,rfl,e1,l3,b3,sy⟩:=(hM _ _).mp hm
 k_units
 exact q rs l3 b3 p1 _ sy np0 e1
def spRul13 (K:W.Frag):Sp:=fun vs H Q _=>∃(R S:Addr) (as:List Addr) (ps:List (List Int)) (rs:List Int) (far:Bool),vs=[.ref R,.ref S]∧H R=some (.lst (as.map V.ref))∧LH H as ps∧Prt13 ps far∧SqL K H S (rs.map V.int)∧rs.length<=3∧(∀r∈rs,r.natAbs < 64)∧∀(R':Addr) (bs:List Addr) H',Same H H'->H' R'=some (.lst (bs.map V.ref))->LH H' bs (ps.map (mulR rs))->Q (.ref R') H'
theorem ok__law_rule {P:Program} {w:World} {K:W.Frag} {mg:Str->Option Value} {base:Heap} (T:Tx K mg):FnOk P w K mg base CX0 3 T.a__law_rule T.fd__law_rule ["_law_parts_here","_law_roots_here"] (spRul13 K):=by
 refine T.F__law_rule.ok sc__law_rule (fun vs H Q E h=>?_) (fun cdv A outer s H vs Q E hr h=>?_)
 ·obtain⟨R,S,as,ps,rs,far,rfl,_⟩:=h
  rfl
 obtain⟨R,S,as,ps,rs,far,rfl,hR,lh,hP,hS,lr,br,q⟩:=h
 refine⟨_,((pss_cons (ps_set (i:=2) sc__law_rule.nd rfl (Or.inl rfl) (pv 0))
  (pss_cons (ps_for PassesOwn.never rfl (pi_list (pv 1)) (pg_name (i:=3) sc__law_rule.nd rfl (Or.inr rfl)) (pss_one (ps_setC (i:=2) rfl (blkok rfl (sub_cons rfl sub_nil) (fv_cons 3 "_law_root" (by decide) rfl (Or.inl rfl) (Or.inl rfl) ⟨_,rfl⟩ fv_nil)) (pi_list (pv 2)) (fun _ _ _ _=>(pe_call (FnOk.mono (ok__law_product T) (by decide)) hr rfl T.m__law_product T.F__law_product.kp T.b__law_product .nil pass0 (pa_cons (pv 0) (pa_cons (pe_lst (pa_cons (pe_un un_neg (pv 1)) (pa_cons pe_int pa_nil))) pa_nil)))) sc__law_rule.nd rfl rfl)))
  (pss_one (ps_ret (pv 2)))))),?_⟩
 k_units
 refine⟨⟨_,hS⟩,?_⟩
 have l5:=hP.l5
 obtain⟨Pv,hPv⟩:∃Pv:Nat->L2.St->Hp->Prop,∀i σ H',Pv i σ H'↔∃(X:Addr) (bs:List Addr) (r3:Option V),σ=[some (V.ref R),some (V.ref S),some (V.ref X),r3]∧H' X=some (.lst (bs.map V.ref))∧LH H' bs (ps.map (mulR (rs.take i)))∧Same H H':=⟨_,fun _ _ _=>Iff.rfl⟩
 refine lp_list (xs:=rs.map V.int) Pv ((hPv _ _ _).mpr ⟨R,as,none,rfl,hR,?_,Same.refl _⟩) (fun i σ H' _ z=>by obtain⟨_,_,_,_,_,_,z⟩:=(hPv i σ H').mp z;exact z.seq hS) ?_ ?_
 ·have e:ps.map (mulR (rs.take 0))=ps:=by rw [List.take_zero];exact (List.map_congr_left fun p _=>rfl).trans (List.map_id _)
  rw [e];exact lh
 ·intro i v σ H' hv hp
  obtain⟨X,bs,r3,rfl,eX,lhb,sP⟩:=(hPv _ _ _).mp hp
  rw [List.getElem?_map] at hv
  obtain⟨r,hr',rfl⟩:=Option.map_eq_some_iff.mp hv
  have hi:i < rs.length:=(List.getElem?_eq_some_iff.mp hr').1
  have r6:=br r (List.mem_of_getElem? hr')
  have et:rs.take (i+1)=rs.take i++[r]:=by rw [List.take_succ,hr'];rfl
  have em:∀s,mulR (rs.take (i+1)) s=pdL (mulR (rs.take i) s) [-r,1]:=fun s=>by rw [et];unfold mulR;rw [List.foldl_append];rfl
  k_units
  refine⟨⟨_,SqL.of eX⟩,fun D nD=>cl_ll nD (SqL.of eX) lhb.ll (ds:=ps.map (mulR (rs.take (i+1)))) (by rw [List.length_map,List.length_map]) (by rw [List.length_map];omega) (fun k b' p d Hx R' hp hd sx hB hR=>?_) fun Y cs H2 s2 nY eY lhY _ _ _=>(hPv _ _ _).mpr ⟨Y,cs,_,rfl,eY,lhY,sP.trans s2⟩⟩
  rw [List.getElem?_map] at hp hd
  obtain⟨s,hs,rfl⟩:=Option.map_eq_some_iff.mp hp
  rw [hs] at hd
  have hd':mulR (rs.take (i+1)) s=d:=Option.some.inj hd
  have hsm:=List.mem_of_getElem? hs
  have lt:(rs.take i).length<=3:=by rw [List.length_take];omega
  have l3:=hP.l s hsm
  have lm:=mulR_len (rs.take i) s (hP.n s hsm)
  have bm:=mulR_bd (k:=60) (rs.take i) s (hP.n s hsm) (fun y hy=>br y (List.mem_of_mem_take hy)) (by omega) (hP.b s hsm)
  (iterate 3 (k_units;(try simp only [bst,Option.getD_some]));k_units)
  refine⟨by decide,fun p1 np1=>⟨b',p1,mulR (rs.take i) s,[-r,1],60+10 * (rs.take i).length,7,rfl,(same_upd np1 _).seq hB,SqL.of upd_same,by omega,by simp,bm,fun y hy=>?_,by omega,fun ws nw lw cw F H2 s2 nF eF=>?_⟩⟩
  ·simp at hy
   rcases hy with rfl | rfl
   ·exact Bd.of_lt (m:=64) (by omega) (by decide)
   ·exact Bd.one (by decide)
  ·rw [nml_ext nw (pd_nml _ _) (fun j=>by rw [cw j,pd_co]),← em,hd'] at eF
   exact hR F H2 ((same_upd np1 _).trans s2) ((same_upd np1 _).free nF) eF
 ·intro σ H' hp
  obtain⟨X,bs,r3,rfl,eX,lhb,sP⟩:=(hPv _ _ _).mp hp
  rw [List.length_map,List.take_length] at lhb
  k_units
  exact q X bs _ sP eX lhb
def maxR:List Int->Nat
 | []=>0
 | r :: rs=>max (r+1).toNat (maxR rs)
theorem maxR_le:∀{rs:List Int} {r:Int},r∈rs->0<=r->r+1<=(maxR rs:Int)
 | x :: rs,r,h,h0=>by
  simp only [maxR]
  rcases List.mem_cons.mp h with rfl | h
  ·omega
  ·have:=maxR_le h h0;omega
theorem maxR_in:∀{rs:List Int},(∀r∈rs,0<=r)->rs≠[]->∃r∈rs,(maxR rs:Int)=r+1
 | [],_,h=>absurd rfl h
 | x :: rs,h,_=>by
  by_cases z:rs=[]
  ·exact⟨x,by simp,by rw [z];simp only [maxR];have:=h x (by simp);omega⟩
  ·obtain⟨r,hr,e⟩:=maxR_in (fun y hy=>h y (by simp [hy])) z
   have hx:=h x (by simp)
   by_cases y:r<=x
   ·exact⟨x,by simp,by simp only [maxR];omega⟩
   ·exact⟨r,by simp [hr],by simp only [maxR];omega⟩
def spNed13 (K:W.Frag):Sp:=fun vs H Q _=>∃(R S:Addr) (as:List V) (rs:List Int),vs=[.ref R,.ref S]∧SqL K H R as∧SqL K H S (rs.map V.int)∧rs.length<=3∧(∀r∈rs,0<=r)∧∀H',Same H H'->Q (.int ((as.length:Int) - 1+maxR rs)) H'
theorem ok__law_need {P:Program} {w:World} {K:W.Frag} {mg:Str->Option Value} {base:Heap} (T:Tx K mg):FnOk P w K mg base CX0 1 T.a__law_need T.fd__law_need ["_law_parts_here","_law_roots_here"] (spNed13 K):=by
 refine T.F__law_need.ok sc__law_need (fun vs H Q E h=>?_) (fun cdv A outer s H vs Q E hr h=>?_)
 ·obtain⟨R,S,as,rs,rfl,_⟩:=h
  rfl
 obtain⟨R,S,as,rs,rfl,hR,hS,lr,h0,q⟩:=h
 refine⟨_,((pss_one (ps_ret (pe_op op_add (pe_op op_sub (pe_callB call_len_seq rfl T.z_len bt_len (pa_cons (pv 0) pa_nil)) pe_int) (pe_maxD rfl rfl T.z_max (pa_cons (pe_lcomp rfl (blkok rfl sub_nil fv_nil) (pi_list (pv 1)) (fun _ _ _ _=>(pe_op op_add (pv 0) pe_int))) pa_nil) (pk_cons pe_int pk_nil)))))),?_⟩
 k_units
 refine⟨_,.inl hR,⟨_,hS⟩,fun D nD=>cl_ints (g:=fun r=>r+1) nD hS (by omega) (fun v hv Hz R' sz hR'=>?_) fun F H1 s1 nF eF=>⟨F,rfl,rs.map (fun r=>r+1),SqL.of eF,fun M hM=>?_⟩⟩
 ·(iterate 3 (k_units;(try simp only [bst,Option.getD_some]));k_units);exact hR'
 have e:M=maxR rs:=by
  by_cases z:rs=[]
  ·rcases hM with ⟨_,h⟩ | ⟨h,_⟩
   ·rw [h,z];rfl
   ·rw [z] at h;simp at h
  ·rcases hM with ⟨h,_⟩ | ⟨h1,h2⟩
   ·simp at h;exact absurd h z
   ·obtain⟨r,hr',er⟩:=List.mem_map.mp h1
    obtain⟨r2,hr2,er2⟩:=maxR_in h0 z
    have h3:=h2 (r2+1) (List.mem_map.mpr ⟨r2,hr2,rfl⟩)
    have h4:=maxR_le hr' (h0 r hr')
    omega
 rw [e]
 exact q _ s1
theorem cut_init (xs:List Addr) (h:0 < xs.length):cutV (xs.map V.ref) none (some (-1))=xs.dropLast.map V.ref:=by
 unfold cutV
 have e:HT.sIx (xs.map V.ref).length (xs.map V.ref).length (some (-1))=xs.length - 1:=by
  show (if (-1:Int) < 0 then ((-1:Int)+((xs.map V.ref).length:Int)).toNat else min (-1:Int).toNat (xs.map V.ref).length)=_
  rw [if_pos (by decide),List.length_map];omega
 rw [e,HT.sIx_none,List.drop_zero,Nat.sub_zero,List.dropLast_eq_take,List.map_take]
theorem LL.init {K:W.Frag} {H:Hp} {as:List Addr} {ps:List (List Int)} (h:LL K H as ps):LL K H as.dropLast ps.dropLast:=by
 refine⟨by simp [h.len],fun i a p h1 h2=>?_⟩
 rw [List.dropLast_eq_take] at h1 h2
 have y:i < as.length - 1:=by
  have:=(List.getElem?_eq_some_iff.mp h1).1
  rw [List.length_take] at this;omega
 rw [List.getElem?_take_of_lt y] at h1
 rw [List.getElem?_take_of_lt (by rw [← h.len];exact y)] at h2
 exact h.get i a p h1 h2
theorem lcm_bd {k:Nat}:∀fs:List (Int×Int),(∀f∈fs,Bd k f.2)->Bd (1+k * fs.length) (lcmL fs)
 | [],_=>Bd.one (by simp)
 | f :: fs,h=>by
  have i:=lcm_bd fs fun g hg=>h g (by simp [hg])
  simp only [lcmL,List.length_cons,Nat.mul_add,Nat.mul_one]
  exact ((h f (by simp)).mul i).mono (by omega)
def spVal13 (K:W.Frag):Sp:=fun vs H Q _=>∃(R S C:Addr) (as:List Addr) (ps:List (List Int)) (rs cs:List Int) (far:Bool) (e many:Nat),vs=[.ref R,.ref S,.ref C,.int (many:Int)]∧SqL K H R (as.map V.ref)∧LL K H as ps∧Prt13 ps far∧SqL K H S (rs.map V.int)∧H C=some (.lst (cs.map V.int))∧cs.length<=63∧many<=80∧10<=e∧e<=100∧1+e * many<=2000∧(∀n:Nat,n<=100->Bd e (val (n:Int) (ps.getLastD [])))∧
 ∀fs:List (Int×Int),fs.length=many->InvV e fs->(∀n,n+ps.length<=fs.length->(n:Int)∈rs∨Kp ps fs n)->∀D bs H',Same H H'->H D=none->H' D=some (.lst (bs.map V.ref))->TH H' bs fs->Q (.ref D) H'
theorem ok__law_values {P:Program} {w:World} {K:W.Frag} {mg:Str->Option Value} {base:Heap} (T:Tx K mg):FnOk P w K mg base CX0 4 T.a__law_values T.fd__law_values ["_law_parts_here","_law_roots_here","_law_cells","_law_many"] (spVal13 K):=by
 refine T.F__law_values.ok sc__law_values (fun vs H Q E h=>?_) (fun cdv A outer s H vs Q E hr h=>?_)
 ·obtain⟨R,S,C,as,ps,rs,cs,far,e,many,rfl,_⟩:=h
  rfl
 obtain⟨R,S,C,as,ps,rs,cs,far,e,many,rfl,hR,hL,hP,hS,hC,lc,l70,e10,e100,he,hbe,q⟩:=h
 refine⟨_,((pss_cons (ps_set (i:=4) sc__law_values.nd rfl (Or.inl rfl) (pe_lst pa_nil))
  (pss_cons (ps_for PassesOwn.never rfl (pi_range1 rfl T.z_range (pa_cons (pv 3) pa_nil)) (pg_name (i:=5) sc__law_values.nd rfl (Or.inl rfl)) (pss_cons (ps_set (i:=6) sc__law_values.nd rfl (Or.inl rfl) (pe_op op_add (pe_op op_sub (pv 5) (pe_callB call_len_seq rfl T.z_len bt_len (pa_cons (pv 0) pa_nil))) pe_int))
  (pss_one (ps_if (PW.pt (pw_or (pt_cmpR op_lt (pv 6) pe_int (nomark _)) (pw_or1 (pt_cmpR op_in_seq (pv 6) (pv 1) (by with_unfolding_all rfl))))) (pss_one (ps_expr (pe_bm PySem.F.plainAttrs_list PySem.F.slot_list_append PySem.F.type_list_append mt_append (pv 4) (pa_cons (pe_call (FnOk.mono (ok__law_fraction T) (by decide)) hr rfl T.m__law_fraction T.F__law_fraction.kp T.b__law_fraction .nil pass0 (pa_cons (pe_ix ix_list (pe_op op_cat (pv 2) (pe_lst (pa_cons (pv 5) pa_nil))) (pe_op op_mod (pv 5) (pe_op op_add (pe_callB call_len_seq rfl T.z_len bt_len (pa_cons (pv 2) pa_nil)) pe_int)) (fun _ _=>rfl)) pa_nil)) pa_nil)))) (pss_cons (ps_asg (pe_call (FnOk.mono (ok__law_weighed T) (by decide)) hr rfl T.m__law_weighed T.F__law_weighed.kp T.b__law_weighed .nil pass0 (pa_cons (pe_slice sl_list (pv 0) po_none (po_some (pe_un un_neg pe_int))) (pa_cons (pv 4) (pa_cons (pv 6) pa_nil)))) (pg_tup rfl (pgs_cons (pg_name (i:=7) sc__law_values.nd rfl (Or.inl rfl)) (pgs_cons (pg_name (i:=8) sc__law_values.nd rfl (Or.inl rfl)) pgs_nil))))
  (pss_one (ps_expr (pe_bm PySem.F.plainAttrs_list PySem.F.slot_list_append PySem.F.type_list_append mt_append (pv 4) (pa_cons (pe_call (FnOk.mono (ok__law_lowest T) (by decide)) hr rfl T.m__law_lowest T.F__law_lowest.kp T.b__law_lowest .nil pass0 (pa_cons (pe_un un_neg (pv 7)) (pa_cons (pe_op op_mulZ (pv 8) (pe_call (FnOk.mono (ok__law_value T) (by decide)) hr rfl T.m__law_value T.F__law_value.kp T.b__law_value .nil pass0 (pa_cons (pe_ix ix_list (pv 0) (pe_un un_neg pe_int) (fun _ _=>rfl)) (pa_cons (pv 6) pa_nil)))) pa_nil))) pa_nil)))))))))
  (pss_one (ps_ret (pv 4)))))),?_⟩
 k_units
 refine⟨Nat.zero_le _,fun D nD=>⟨by omega,by omega,?_⟩⟩
 rw [Int.toNat_natCast]
 have lp:=List.length_pos_iff.mpr hP.ne
 have l5:=hP.l5
 obtain⟨Pv,hPv⟩:∃Pv:Nat->L2.St->Hp->Prop,∀i σ H',Pv i σ H'↔∃(bs:List Addr) (fs:List (Int×Int)) (r5 r6 r7 r8:Option V),σ=[some (V.ref R),some (V.ref S),some (V.ref C),some (V.int (many:Int)),some (V.ref D),r5,r6,r7,r8]∧H' D=some (.lst (bs.map V.ref))∧TH H' bs fs∧fs.length=i∧InvV e fs∧(∀n,n+ps.length<=i->(n:Int)∈rs∨Kp ps fs n)∧Same H H':=⟨_,fun _ _ _=>Iff.rfl⟩
 refine lp_range Pv ((hPv _ _ _).mpr ⟨[],[],none,none,none,none,rfl,upd_same,TH.nil _,rfl,InvV.nil e,fun n hn=>by omega,same_upd nD _⟩) ?_ ?_
 ·intro i σ H' hi hpp
  obtain⟨bs,fs,r5,r6,r7,r8,rfl,eD,th,lf,iv,kp,sP⟩:=(hPv _ _ _).mp hpp
  have e1:(0:Int)+(i:Int)=(i:Int):=Int.zero_add _
  (iterate 3 (k_units;(try simp only [e1]));k_units)
  refine⟨_,.inl (sP.seq hR),?_⟩
  rw [List.length_map,hL.len]
  have more:∀(z:Int×Int) (r:Addr) (Hx:Hp) (r5 r6 r7 r8:Option V),Same H' Hx->Hx r=some (.tup [.int z.1,.int z.2])->InvV e (fs++[z])->(∀n:Nat,n+ps.length=i+1->(n:Int)∈rs∨Kp ps (fs++[z]) n)->
    ∃x,Hx D=some (.lst x)∧x.length < sizeLine∧Pv (i+1) [some (V.ref R),some (V.ref S),some (V.ref C),some (V.int (many:Int)),some (V.ref D),r5,r6,r7,r8] (upd Hx D (.lst (x++[V.ref r]))):=fun z r Hx r5 r6 r7 r8 sx er iv' kp'=>by
   have eDx:=sx _ _ eD
   have lb:=th.len
   refine⟨_,eDx,by rw [List.length_map];exact small1000 (by omega),(hPv _ _ _).mpr ⟨bs++[r],fs++[z],r5,r6,r7,r8,rfl,by rw [upd_same];simp,TH.upd (TH.snoc (th.same sx) er) eDx,by simp [lf],iv',fun n hn=>?_,(sP.trans sx).more nD⟩⟩
   by_cases y:n+ps.length<=i
   ·exact (kp n y).imp id fun h=>(kp_app (by omega)).mpr h
   ·exact kp' n (by omega)
  have draw:(∀n:Nat,n+ps.length=i+1->(n:Int)∈rs)->tyV K "list" (V.ref D) H'∧0+1<=sizeLine∧∀(p:Addr),H' p=none->∃x,upd H' p (HO.lst [V.int (i:Int)]) C=some (HO.lst x)∧∃x_1,upd H' p (HO.lst [V.int (i:Int)]) p=some (HO.lst x_1)∧x.length+x_1.length<=sizeLine∧∀(p_1:Addr),upd H' p (HO.lst [V.int (i:Int)]) p_1=none->
    ∃x_2,(SqL K (upd (upd H' p (HO.lst [V.int (i:Int)])) p_1 (HO.lst (x++x_1))) C x_2∨SqT K (upd (upd H' p (HO.lst [V.int (i:Int)])) p_1 (HO.lst (x++x_1))) C x_2)∧0 < (x_2.length:Int)+1∧∃x_3,SqL K (upd (upd H' p (HO.lst [V.int (i:Int)])) p_1 (HO.lst (x++x_1))) p_1 x_3∧∃x_4,atI x_3 ((i:Int) % ((x_2.length:Int)+1))=some x_4∧spFrac [x_4] (upd (upd H' p (HO.lst [V.int (i:Int)])) p_1 (HO.lst (x++x_1))) (fun x H1=>∃x_5,H1 D=some (HO.lst x_5)∧x_5.length < sizeLine∧
     Pv (i+1) [some (V.ref R),some (V.ref S),some (V.ref C),some (V.int (many:Int)),some (V.ref D),some (V.int (i:Int)),some (V.int ((i:Int) - (ps.length:Int)+1)),r7,r8] (upd H1 D (HO.lst (x_5++[x])))) E0:=fun hyp=>⟨a_tyL (SqL.of eD),by decide,fun p np=>by
   have u1:=same_upd np (.lst [V.int (i:Int)])
   refine⟨_,u1 _ _ (sP _ _ hC),_,upd_same,by rw [List.length_map];exact Nat.le_of_lt (small1000 (by simp;omega)),fun p1 np1=>?_⟩
   have u2:=same_upd np1 (.lst (cs.map V.int++[V.int (i:Int)]))
   have u12:=u1.trans u2
   have el:cs.map V.int++[V.int (i:Int)]=(cs++[(i:Int)]).map V.int:=by simp
   refine⟨_,.inl (SqL.of (u12 _ _ (sP _ _ hC))),by omega,_,SqL.of upd_same,?_⟩
   obtain⟨k,hk,hk2⟩:∃k:Nat,(i:Int) % (((cs.map V.int).length:Int)+1)=(k:Int)∧k < (cs++[(i:Int)]).length:=by
    rw [List.length_map]
    have h1:=Int.emod_nonneg (i:Int) (show (cs.length:Int)+1≠0 by omega)
    have h2:=Int.emod_lt_of_pos (i:Int) (show (0:Int) < (cs.length:Int)+1 by omega)
    exact⟨((i:Int) % ((cs.length:Int)+1)).toNat,by omega,by simp;omega⟩
   refine⟨V.int (cs++[(i:Int)])[k],by rw [hk,el];exact at_int hk2,_,rfl,fun x y F bx by' r H1 s1 er=>more (x,y) r H1 _ _ _ _ (u12.trans s1) er (iv.draw F bx by' e10) fun n hn=>.inl (hyp n hn)⟩⟩
  refine ite2 (fun hneg=>draw fun n hn=>by omega) (fun hneg=>⟨_,.inl (sP.seq hS),rfl,flat_ints rs,?_⟩)
  rw [inV_int]
  refine ite2 (fun hin=>draw fun n hn=>?_) (fun hin=>?_)
  ·have:(n:Int)=(i:Int) - (ps.length:Int)+1:=by omega
   rw [this];exact of_decide_eq_true hin
  obtain⟨n,hn⟩:∃n:Nat,(i:Int) - (ps.length:Int)+1=(n:Int):=⟨((i:Int) - (ps.length:Int)+1).toNat,by omega⟩
  rw [hn] at hin ⊢
  have hnr:(n:Int)∉rs:=fun z=>hin (decide_eq_true z)
  have hn1:n+ps.length=fs.length+1:=by omega
  refine⟨_,sP.seq hR,fun p np=>?_⟩
  have lap:0 < as.length:=by rw [hL.len];exact lp
  rw [cut_init _ lap]
  have u1:=same_upd np (.lst (as.dropLast.map V.ref))
  have sP1:=sP.trans u1
  have eD1:=u1 _ _ eD
  have ep1:upd H' p (.lst (as.dropLast.map V.ref)) p=some (.lst (as.dropLast.map V.ref)):=upd_same
  generalize upd H' p (.lst (as.dropLast.map V.ref))=G1 at u1 sP1 eD1 ep1 ⊢
  have e2k:e * i<=e * many:=Nat.mul_le_mul_left _ (by omega)
  have gd:Good fs:=iv.good (by omega) (by rw [lf];omega)
  have hb13:∀p∈ps.dropLast,p.length<=64∧∀x∈p,Bd 1300 x:=fun p hp=>by
   have hp':=List.dropLast_subset _ hp
   have:=hP.l p hp'
   exact⟨by omega,fun x hx=>(hP.b p hp' x hx).mono (by decide)⟩
  have ldl:ps.dropLast.length=ps.length - 1:=List.length_dropLast
  refine⟨p,D,as.dropLast,bs,ps.dropLast,fs,n,rfl,SqL.of ep1,(hL.same sP1).init,SqL.of eD1,(th.same u1).tl,by omega,by omega,by omega,hb13,gd,fun r H2 s2 er=>⟨r,rfl,_,SqT.of er,rfl,?_⟩⟩
  have ec:(fs.drop n).take ps.dropLast.length=fs.drop n:=List.take_of_length_le (by rw [List.length_drop];omega)
  have ez:(ps.dropLast.map (val (n:Int))).zip (fs.drop n)=ws ps fs n:=by
   unfold ws
   conv=>rhs;rw [last_split hP.ne]
   rw [List.map_append,zip_le _ _ _ (by rw [List.length_map,ldl,List.length_drop];omega)]
  rw [ec,ez] at er
  rw [ec,ez]
  k_units
  have eD2:=s2 _ _ eD1
  have sP2:=sP1.trans s2
  obtain⟨a',p',at1,_,hp2,hpS⟩:=(hL.same sP2).lastAt hP.ne
  have el:ps.getLastD []=p':=by rw [List.getLastD_eq_getLast?,hp2];rfl
  have hpm:=List.mem_of_getLast? hp2
  have bn:Bd 7 (n:Int):=Bd.of_lt (m:=101) (by omega) (by decide)
  have l3:=hP.l p' hpm
  have v1:∀f∈fs,1<=f.2:=fun f hf=>(iv.f f hf).1.1
  have M1:=lcm_pos (fs.drop n) fun f hf=>v1 f (List.mem_of_mem_drop hf)
  have hv:val (n:Int) p'≠0:=by rw [← el];exact val_clr hP.t.c (by omega)
  have bM:Bd 8001 (lcmL (fs.drop n)):=by
   obtain⟨E1,g1,g2,g3⟩:=iv.E
   have h:=lcm_bd (k:=2000) (fs.drop n) fun f hf=>Nat.lt_of_le_of_lt (Nat.le_of_dvd (by omega) (Int.natAbs_dvd_natAbs.mpr (g3 f (List.mem_of_mem_drop hf)))) (g2.mono (by rw [lf];omega))
   exact h.mono (by rw [List.length_drop];omega)
  have bv:Bd 100 (val (n:Int) p'):=by have:=hbe n (by omega);rw [el] at this;exact this.mono e100
  refine⟨a_tyL (SqL.of eD2),_,sP2.seq hR,_,at1,a',p',n,60,7,rfl,hpS,by omega,hP.b p' hpm,bn,by decide,_,rfl,bM.fits bv (by omega),?_⟩
  refine⟨_,_,rfl,Int.mul_ne_zero (by omega) hv,(bM.mul bv).mono (by omega),fun x y y1 cg e3 lx ly r2 nr2=>?_⟩
  have key:(x,y)=nextF ps fs:=by
   have en:fs.length - (ps.length - 1)=n:=by omega
   have ee:nextF ps fs=lowF (Wm (lcmL (fs.drop n)) (ws ps fs n)) (-(lcmL (fs.drop n) * val (n:Int) p')):=by unfold nextF;rw [en,el]
   rw [ee]
   refine low_uniq ⟨y1,cg⟩ (by have:=Int.mul_ne_zero (show lcmL (fs.drop n)≠0 by omega) hv;omega) ?_
   show x * -(lcmL (fs.drop n) * val (n:Int) p')=Wm (lcmL (fs.drop n)) (ws ps fs n) * y
   rw [Int.mul_neg,e3,Int.neg_mul,Int.neg_neg]
  have kz:=next_keeps hP.ne hn1 v1 (by rw [el];exact hv)
  have bp:∀p∈ps,(val (n:Int) p).natAbs<=2 ^ 84:=fun p hp=>by
   have l3':=hP.l p hp
   exact Nat.le_of_lt ((val_bd bn p (hP.b p hp)).mono (by omega))
  refine more (x,y) r2 _ _ _ _ _ (u1.trans (s2.trans (same_upd nr2 _))) upd_same (by rw [key];exact iv.next hP.ne hn1 (by omega) (by rw [el];exact hv) bp (hbe n (by omega))) fun n' hn'=>.inr (by rw [key,show n'=n by omega];exact kz.2)
 ·intro σ H' hpp
  obtain⟨bs,fs,r5,r6,r7,r8,rfl,eD,th,lf,iv,kp,sP⟩:=(hPv _ _ _).mp hpp
  k_units
  exact q fs lf iv (fun n hn=>kp n (by omega)) D bs _ sP nD eD th
def dT (f:Int×Int):PyData:=.tuple [.int f.1,.int f.2]
theorem dvs_tl {K:W.Frag} {H:Hp}:∀(as:List Addr) (fs:List (Int×Int)),TL K H as fs->DVs K H (as.map V.ref) (fs.map dT)
 | [],[],_=>.nil
 | a :: as,f :: fs,h=>.cons (DV.tup (h.get 0 a f rfl rfl) (.cons (.int _) (.cons (.int _) .nil))) (dvs_tl as fs ⟨by have:=h.len;simpa using this,fun i b r h1 h2=>h.get (i+1) b r (by simpa using h1) (by simpa using h2)⟩)
 | [],_ :: _,h=>by have:=h.len;simp at this
 | _ :: _,[],h=>by have:=h.len;simp at this
theorem eqvAll_tl (fs:List (Int×Int)):PyData.eqvAll (fs.map dT) (fs.map dT)=true:=by
 induction fs with
 | nil=>rfl
 | cons p ps ih=>simp [PyData.eqvAll,PyData.eqv,dT,ih]
theorem layAll_tl (fs:List (Int×Int)):PyData.canLayAll0 (fs.map dT)=true:=by
 induction fs with
 | nil=>rfl
 | cons p ps ih=>simp [PyData.canLayAll0,PyData.canLay0,dT,ih]
theorem depAll_tl (fs:List (Int×Int)):PyData.depthAll (fs.map dT)<=1:=by
 induction fs with
 | nil=>exact Nat.zero_le _
 | cons p ps ih=>simp [PyData.depthAll,PyData.depth,dT];omega
theorem TH.set {H:Hp} {as:List Addr} {fs:List (Int×Int)} {a:Addr} {f:Int×Int} (h:TH H as fs) (e:H a=some (.tup [.int f.1,.int f.2])) (i:Nat):TH H (as.set i a) (fs.set i f):=by
 refine⟨by simp [h.len],fun j b r h1 h2=>?_⟩
 by_cases z:i=j
 ·subst z
  have l1:i < as.length:=by have:=(List.getElem?_eq_some_iff.mp h1).1;simpa using this
  rw [List.getElem?_set_self l1] at h1
  rw [List.getElem?_set_self (by rw [← h.len];exact l1)] at h2
  rw [← Option.some.inj h1,← Option.some.inj h2];exact e
 ·rw [List.getElem?_set_ne z] at h1 h2
  exact h.get j b r h1 h2
def Spo (j:Nat) (fs:List (Int×Int)) (g:Int×Int):Prop:=∃f∈fs,∃i:Nat,i<=j∧g=(f.1+i * f.2,f.2)
theorem Spo.up {j:Nat} {fs:List (Int×Int)} {g:Int×Int} (h:Spo j fs g):Spo (j+1) fs g:=by
 obtain⟨f,hf,i,hi,e⟩:=h
 exact⟨f,hf,i,by omega,e⟩
theorem Spo.one {j:Nat} {fs:List (Int×Int)} {g:Int×Int} (h:Spo j fs g):Spo (j+1) fs (g.1+g.2,g.2):=by
 obtain⟨f,hf,i,hi,rfl⟩:=h
 exact⟨f,hf,i+1,by omega,by simp only [Prod.mk.injEq,and_true];rw [Int.natCast_add,Int.add_mul];omega⟩
def spSpF (K:W.Frag):Sp:=fun vs H Q _=>∃(a V':Addr) (ns:List Int) (bs:List Addr) (fs:List (Int×Int)),vs=[.ref a,.ref V']∧SqL K H a (ns.map V.int)∧H V'=some (.lst (bs.map V.ref))∧TH H bs fs∧fs.length<=400∧
 ∀gs:List (Int×Int),gs.length<=fs.length->(∀g∈gs,Spo 2 fs g)->∀(L:Addr) (cs:List Addr) (H':Hp),Same H H'->H L=none->H' L=some (.lst (cs.map V.ref))->TH H' cs gs->Q (.ref L) H'
theorem ok__law_spoiled_first {P:Program} {w:World} {K:W.Frag} {mg:Str->Option Value} {base:Heap} (T:Tx K mg):FnOk P w K mg base CX0 2 T.a__law_spoiled_first T.fd__law_spoiled_first ["_law_script","_law_first"] (spSpF K):=by
 refine T.F__law_spoiled_first.ok sc__law_spoiled_first (fun vs H Q E h=>?_) (fun cdv A outer s H vs Q E hr h=>?_)
 ·obtain⟨a,V',ns,bs,fs,rfl,_⟩:=h
  rfl
 obtain⟨a,V',ns,bs,fs,rfl,hA,hV,hT,l4,q⟩:=h
 refine⟨_,((pss_cons (ps_set (i:=2) sc__law_spoiled_first.nd rfl (Or.inl rfl) (pe_call (FnOk.mono (ok__law_cell_at T) (by decide)) hr rfl T.m__law_cell_at T.F__law_cell_at.kp T.b__law_cell_at .nil pass0 (pa_cons (pv 0) (pa_cons pe_int pa_nil))))
  (pss_cons (ps_set (i:=3) sc__law_spoiled_first.nd rfl (Or.inl rfl) (pe_callTy call_list_of rfl T.z_list bt_list (pa_cons (pv 1) pa_nil)))
  (pss_cons (ps_for PassesOwn.never rfl (pi_range1 rfl T.z_range (pa_cons (pe_op op_mod (pv 2) pe_int) pa_nil)) (pg_name (i:=4) sc__law_spoiled_first.nd rfl (Or.inl rfl)) (pss_one (ps_if (pt_cmpR op_gt (pe_callB call_len_seq rfl T.z_len bt_len (pa_cons (pv 3) pa_nil)) pe_int (nomark _)) (pss_cons (ps_set (i:=5) sc__law_spoiled_first.nd rfl (Or.inl rfl) (pe_op op_mod (pe_call (FnOk.mono (ok__law_cell_at T) (by decide)) hr rfl T.m__law_cell_at T.F__law_cell_at.kp T.b__law_cell_at .nil pass0 (pa_cons (pv 0) (pa_cons (pe_op op_add pe_int (pv 4)) pa_nil))) (pe_callB call_len_seq rfl T.z_len bt_len (pa_cons (pv 3) pa_nil))))
  (pss_one (ps_asg (pe_tup (pa_cons (pe_op op_add (pe_ix ix_tup (pe_ix ix_list (pv 3) (pv 5) (fun _ _=>rfl)) pe_int (fun _ _=>rfl)) (pe_ix ix_tup (pe_ix ix_list (pv 3) (pv 5) (fun _ _=>rfl)) pe_int (fun _ _=>rfl))) (pa_cons (pe_ix ix_tup (pe_ix ix_list (pv 3) (pv 5) (fun _ _=>rfl)) pe_int (fun _ _=>rfl)) pa_nil))) (pg_sub (pv 3) (pv 5) set_list)))) pss_nil)))
  (pss_cons (ps_if (pt_cmpR op_eq (pe_op op_mod (pe_op op_fdiv (pv 2) pe_int) pe_int) pe_int (nomark _)) (pss_one (ps_ret (pe_slice sl_list (pv 3) po_none (po_some (pe_callB (call_max2 rfl) rfl T.z_max bt_max (pa_cons pe_int (pa_cons (pe_op op_sub (pe_op op_sub (pe_callB call_len_seq rfl T.z_len bt_len (pa_cons (pv 3) pa_nil)) pe_int) (pe_op op_mod (pe_op op_fdiv (pv 2) pe_int) pe_int)) pa_nil))))))) pss_nil)
  (pss_one (ps_ret (pv 3)))))))),?_⟩
 dsimp only [a_seq]
 k_typeOf
 refine⟨a,ns,40,rfl,hA,?_⟩
 dsimp only [a_seq]
 k_typeOf
 refine⟨_,.inl (SqL.of hV),fun L nL=>?_⟩
 have uL:=same_upd nL (.lst (bs.map V.ref))
 have eL:upd H L (.lst (bs.map V.ref)) L=some (.lst (bs.map V.ref)):=upd_same
 have hT1:=hT.same uL
 generalize upd H L (.lst (bs.map V.ref))=H1 at uL eL hT1 ⊢
 dsimp only [a_seq]
 k_typeOf
 obtain⟨c,hc⟩:∃c,cell ns 40=c:=⟨_,rfl⟩
 rw [hc]
 obtain⟨t,ht,t2⟩:∃t:Nat,(c % 3).toNat=t∧t<=2:=⟨_,rfl,by omega⟩
 rw [ht]
 refine⟨by decide,by omega,by omega,?_⟩
 obtain⟨Pv,hPv⟩:∃Pv:Nat->L2.St->Hp->Prop,∀i σ H',Pv i σ H'↔∃(r4 r5:Option V) (gs:List (Int×Int)) (cs:List Addr),σ=[some (V.ref a),some (V.ref V'),some (V.int c),some (V.ref L),r4,r5]∧gs.length=fs.length∧(∀g∈gs,Spo i fs g)∧H' L=some (.lst (cs.map V.ref))∧TH H' cs gs∧Same H H':=⟨_,fun _ _ _=>Iff.rfl⟩
 refine lp_range Pv ((hPv _ _ _).mpr ⟨_,_,fs,bs,rfl,rfl,fun g hg=>⟨g,hg,0,Nat.le_refl _,by simp⟩,eL,hT1,uL⟩) ?_ ?_
 ·intro i σ H' hi hp
  obtain⟨r4,r5,gs,cs,rfl,lg,hg,eL',th,sP⟩:=(hPv _ _ _).mp hp
  have e1:(41:Int)+((0:Int)+(i:Int))=((41+i:Nat):Int):=by omega
  have lc:=th.len
  k_units
  refine⟨_,.inl (SqL.of eL'),?_⟩
  rw [List.length_map]
  refine ite2 (fun h0=>?_) (fun h0=>(hPv _ _ _).mpr ⟨_,_,gs,cs,rfl,lg,fun g h=>(hg g h).up,eL',th,sP⟩)
  rw [e1]
  refine⟨a,ns,41+i,rfl,sP.seq hA,_,.inl (SqL.of eL'),_,rfl,?_⟩
  have hl0:0 < cs.length:=by omega
  obtain⟨j,hj,hj2⟩:∃j:Nat,cell ns (41+i) % ((cs.map V.ref).length:Int)=(j:Int)∧j < cs.length:=by
   have h1:=Int.emod_nonneg (cell ns (41+i)) (show ((cs.map V.ref).length:Int)≠0 by rw [List.length_map];omega)
   have h2:=Int.emod_lt_of_pos (cell ns (41+i)) (show (0:Int) < ((cs.map V.ref).length:Int) by rw [List.length_map];omega)
   rw [List.length_map] at h1 h2 ⊢
   exact⟨(cell ns (41+i) % (cs.length:Int)).toNat,by omega,by omega⟩
  rw [hj]
  have at1:atI (cs.map V.ref) (j:Int)=some (V.ref cs[j]):=atI_nat (by rw [List.getElem?_map,List.getElem?_eq_getElem hj2];rfl)
  have hj3:j < gs.length:=by omega
  have tp:=th.get j cs[j] gs[j] (List.getElem?_eq_getElem hj2) (List.getElem?_eq_getElem hj3)
  refine⟨by rw [List.length_map];omega,_,SqL.of eL',_,at1,_,rfl,_,SqT.of tp,_,rfl,_,SqL.of eL',_,at1,_,rfl,_,SqT.of tp,_,rfl,_,rfl,_,rfl,_,SqL.of eL',_,at1,_,rfl,_,SqT.of tp,_,rfl,by decide,fun p np=>?_⟩
  have up:=same_upd np (.tup [V.int (gs[j].1+gs[j].2),V.int gs[j].2])
  have th2:=TH.set (th.same up) (a:=p) (f:=(gs[j].1+gs[j].2,gs[j].2)) upd_same j
  refine⟨_,up _ _ eL',j,ixN_nat (by rw [List.length_map];exact hj2),(hPv _ _ _).mpr ⟨_,_,gs.set j (gs[j].1+gs[j].2,gs[j].2),cs.set j p,rfl,by rw [List.length_set];exact lg,fun g hg'=>?_,by rw [upd_same,List.map_set],TH.upd th2 (up _ _ eL'),(sP.trans up).more nL⟩⟩
  rcases List.mem_or_eq_of_mem_set hg' with z | z
  ·exact (hg g z).up
  ·rw [z];exact (hg _ (List.getElem_mem hj3)).one
 ·intro σ H' hp
  obtain⟨r4,r5,gs,cs,rfl,lg,hg,eL',th,sP⟩:=(hPv _ _ _).mp hp
  k_units
  have hg2:∀g∈gs,Spo 2 fs g:=fun g h=>by
   obtain⟨f,hf,i,hi,e⟩:=hg g h
   exact⟨f,hf,i,by omega,e⟩
  refine⟨⟨by decide,by decide⟩,by decide,ite2 (fun h3=>⟨_,.inl (SqL.of eL'),⟨by decide,by decide⟩,by decide,_,SqL.of eL',fun p np=>?_⟩) (fun h3=>q gs (by omega) hg2 L cs H' sP nL eL' th)⟩
  obtain⟨u,hu⟩:∃u:Nat,(if ((cs.map V.ref).length:Int) - 1 - c / 12 % 4 > 0 then ((cs.map V.ref).length:Int) - 1 - c / 12 % 4 else 0)=(u:Int):=⟨(if ((cs.map V.ref).length:Int) - 1 - c / 12 % 4 > 0 then ((cs.map V.ref).length:Int) - 1 - c / 12 % 4 else 0).toNat,by split <;> omega⟩
  rw [hu,cut_upto]
  have up:=same_upd np (.lst ((cs.take u).map V.ref))
  exact q (gs.take u) (by rw [List.length_take];omega) (fun g h=>hg2 g (List.mem_of_mem_take h)) p (cs.take u) _ (sP.trans up) (sP.free np) upd_same ((th.take u).same up)
theorem IsRule.nils:¬IsRule []:=fun z=>z.1 rfl
theorem IsRule.nl {ps:List (List Int)}:¬IsRule (ps++[[]]):=fun z=>z.2.1 [] (by rw [List.getLast?_concat]) rfl
theorem nml_app0 {p:List Int}:¬Nml (p++[0]):=fun z=>nml_last.mp z 0 (by rw [List.getLast?_concat]) rfl
def spSpR (K:W.Frag):Sp:=fun vs H Q _=>∃(a R:Addr) (ns:List Int) (as:List Addr) (ps:List (List Int)),vs=[.ref a,.ref R]∧SqL K H a (ns.map V.int)∧H R=some (.lst (as.map V.ref))∧LH H as ps∧ps≠[]∧ps.length<=5∧(∀p∈ps,Nml p∧p.length<=7∧∀x∈p,Bd 100 x)∧
 ∀qs:List (List Int),qs.length<=6->(∀p∈qs,p.length<=64∧∀x∈p,Bd 200 x)->(IsRule qs->if cell ns 43 % 4=3 then ∃c:Int,60<=c∧qs=ps.map (mulR [c]) else qs=ps)->∀(R':Addr) (bs:List Addr) (H':Hp),Same H H'->H' R'=some (.lst (bs.map V.ref))->LH H' bs qs->Q (.ref R') H'
theorem ok__law_spoiled_rule {P:Program} {w:World} {K:W.Frag} {mg:Str->Option Value} {base:Heap} (T:Tx K mg):FnOk P w K mg base CX0 3 T.a__law_spoiled_rule T.fd__law_spoiled_rule ["_law_script","_law_rule_here"] (spSpR K):=by
 refine T.F__law_spoiled_rule.ok sc__law_spoiled_rule (fun vs H Q E h=>?_) (fun cdv A outer s H vs Q E hr h=>?_)
 ·obtain⟨a,R,ns,as,ps,rfl,_⟩:=h
  rfl
 obtain⟨a,R,ns,as,ps,rfl,hA,hR,lh,ne,l5,hp,q⟩:=h
 refine⟨_,((pss_cons (ps_set (i:=2) sc__law_spoiled_rule.nd rfl (Or.inr rfl) (pe_call (FnOk.mono (ok__law_cell_at T) (by decide)) hr rfl T.m__law_cell_at T.F__law_cell_at.kp T.b__law_cell_at .nil pass0 (pa_cons (pv 0) (pa_cons pe_int pa_nil))))
  (pss_cons (ps_setC (i:=3) rfl (blkok rfl sub_nil fv_nil) (pi_list (pv 1)) (fun _ _ _ _=>(pe_callTy (call_list_ofK (K:=K) rfl) rfl T.z_list bt_list (pa_cons (pv 0) pa_nil))) sc__law_spoiled_rule.nd rfl rfl)
  (pss_mid (ps_if (pt_cmpR op_eq (pe_op op_mod (pv 2) pe_int) pe_int (nomark _)) (pss_one (ps_setC (i:=3) rfl (blkok rfl (sub_cons rfl sub_nil) (fv_cons 2 "_law_cell" (by decide) rfl (Or.inl rfl) (Or.inl rfl) ⟨_,rfl⟩ fv_nil)) (pi_list (pv 1)) (fun _ _ _ _=>(pe_call (FnOk.mono (ok__law_product T) (by decide)) hr rfl T.m__law_product T.F__law_product.kp T.b__law_product .nil pass0 (pa_cons (pv 0) (pa_cons (pe_lst (pa_cons (pe_op op_sub (pe_un un_neg pe_int) (pe_op op_mulZ (pe_op op_mod (pe_op op_fdiv (pv 1) pe_int) pe_int) (pe_op op_mod (pe_op op_fdiv (pv 1) pe_int) pe_int))) (pa_cons pe_int pa_nil))) pa_nil)))) sc__law_spoiled_rule.nd rfl rfl)) pss_nil)
  (pss_cons (ps_set (i:=4) sc__law_spoiled_rule.nd rfl (Or.inl rfl) (pe_op op_mod (pe_call (FnOk.mono (ok__law_cell_at T) (by decide)) hr rfl T.m__law_cell_at T.F__law_cell_at.kp T.b__law_cell_at .nil pass0 (pa_cons (pv 0) (pa_cons pe_int pa_nil))) pe_int))
  (pss_cons (ps_if (pt_cmpR op_eq (pv 4) pe_int (nomark _)) (pss_one (ps_ret (pe_lst pa_nil))) pss_nil)
  (pss_cons (ps_if (pt_cmpR op_eq (pv 4) pe_int (nomark _)) (pss_one (ps_ret (pe_op op_cat (pv 3) (pe_lst (pa_cons (pe_lst pa_nil) pa_nil))))) pss_nil)
  (pss_mid (ps_if (pt_cmpR op_eq (pv 4) pe_int (nomark _)) (pss_one (ps_expr (pe_bm PySem.F.plainAttrs_list PySem.F.slot_list_append PySem.F.type_list_append mt_append (pe_ix ix_list (pv 3) (pe_op op_mod (pe_op op_fdiv (pe_call (FnOk.mono (ok__law_cell_at T) (by decide)) hr rfl T.m__law_cell_at T.F__law_cell_at.kp T.b__law_cell_at .nil pass0 (pa_cons (pv 0) (pa_cons pe_int pa_nil))) pe_int) (pe_callB call_len_seq rfl T.z_len bt_len (pa_cons (pv 3) pa_nil))) (fun _ _=>rfl)) (pa_cons pe_int pa_nil)))) pss_nil)
  (pss_one (ps_ret (pv 3))))))))))),?_⟩
 dsimp only [a_seq]
 k_typeOf
 refine⟨a,ns,43,rfl,hA,?_⟩
 obtain⟨c,hc⟩:∃c,cell ns 43=c:=⟨_,rfl⟩
 rw [hc] at q ⊢
 dsimp only [a_seq]
 k_typeOf
 refine⟨⟨_,SqL.of hR⟩,fun D nD=>cl_ll nD (SqL.of hR) lh.ll (ds:=ps) rfl (by omega) (fun i b' p d Hx R' hp' hd sx hB hR'=>?_) fun F cs H1 s1 nF eF lc ncs Fcs ndc=>?_⟩
 ·obtain rfl:p=d:=by rw [hp'] at hd;exact Option.some.inj hd
  (iterate 3 (k_units;(try simp only [bst]));k_units)
  exact⟨_,.inl hB,fun l nl=>hR' l _ (same_upd nl _) nl upd_same⟩
 have R1:=s1 _ _ hR
 have lh1:=lh.same s1
 obtain⟨M,hM⟩:∃M:L2.St->Hp->Prop,∀σ Hx,M σ Hx↔∃(G:Addr) (gs:List Addr) (qs:List (List Int)),σ=[some (V.ref a),some (V.ref R),some (V.int c),some (V.ref G),none]∧Hx G=some (.lst (gs.map V.ref))∧LH Hx gs qs∧gs.Nodup∧G∉gs∧(∀b∈gs,H b=none)∧H G=none∧Same H Hx∧qs.length=ps.length∧(∀p∈qs,Nml p∧p.length<=9∧∀x∈p,Bd 120 x)∧(if c % 4=3 then ∃d:Int,60<=d∧qs=ps.map (mulR [d]) else qs=ps):=⟨_,fun _ _=>Iff.rfl⟩
 refine mid_of M ?_ ?_
 ·k_units
  refine⟨by decide,ite2 (fun h3=>?_) (fun h3=>(hM _ _).mpr ⟨F,cs,ps,rfl,eF,lc,ndc,Fcs,ncs,nF,s1,rfl,fun p h=>⟨(hp p h).1,by have:=(hp p h).2.1;omega,fun x hx=>((hp p h).2.2 x hx).mono (by decide)⟩,by rw [if_neg h3]⟩)⟩
  obtain⟨d,hd0,d60,d3⟩:∃d:Int,-60 - c / 4 % 2 * (c / 8 % 300)=-d∧60<=d∧d<=359:=by
   have:c / 4 % 2=0∨c / 4 % 2=1:=by omega
   rcases this with z | z <;> rw [z]
   ·exact⟨60,by omega,by omega,by omega⟩
   ·exact⟨60+c / 8 % 300,by omega,by omega,by omega⟩
  have md:∀p:List Int,mulR [d] p=pdL p [-d,1]:=fun _=>rfl
  have ok:∀p∈ps.map (mulR [d]),Nml p∧p.length<=9∧∀x∈p,Bd 120 x:=fun p h=>by
   obtain⟨p0,h0,rfl⟩:=List.mem_map.mp h
   obtain⟨n0,l0,b0⟩:=hp p0 h0
   rw [md]
   refine⟨pd_nml _ _,?_,?_⟩
   ·have:(pdL p0 [-d,1]).length<=p0.length+2 - 1:=pd_len n0 (nml_one1 [-d])
    omega
   ·have h1:∀x∈pdL p0 [-d,1],Bd (100+9+3) x:=in_co fun j=>by
     rw [pd_co]
     refine pm_bd b0 (fun y hy=>?_) (by omega) j
     simp at hy
     rcases hy with rfl | rfl
     ·exact Bd.of_lt (m:=512) (by omega) (by decide)
     ·exact Bd.one (by decide)
    exact fun x hx=>(h1 x hx).mono (by decide)
  refine⟨⟨_,SqL.of R1⟩,fun D1 nD1=>cl_ll nD1 (SqL.of R1) lh1.ll (ds:=ps.map (mulR [d])) (by rw [List.length_map]) (by omega) (fun k b' p e Hx R' hp' hd sx hB hR'=>?_) fun Y cs2 H2 s2 nY eY lhY ny Yn ndy=>(hM _ _).mpr ⟨Y,cs2,ps.map (mulR [d]),rfl,eY,lhY,ndy,Yn,fun b hb=>s1.free (ny b hb),s1.free nY,s1.trans s2,by rw [List.length_map],ok,by rw [if_pos h3];exact⟨d,d60,rfl⟩⟩⟩
  rw [List.getElem?_map,hp'] at hd
  have hd':mulR [d] p=e:=Option.some.inj hd
  obtain⟨n0,l0,b0⟩:=hp p (List.mem_of_getElem? hp')
  (iterate 3 (k_units;(try simp only [bst,Option.getD_some]));k_units)
  have f1:Bd 2 (c / 4 % 2):=Bd.of_lt (m:=4) (by omega) (by decide)
  have f2:Bd 9 (c / 8 % 300):=Bd.of_lt (m:=512) (by omega) (by decide)
  refine⟨⟨by decide,by decide⟩,by decide,⟨by decide,by decide⟩,by decide,f1.fits f2 (by decide),by decide,fun p1 np1=>?_⟩
  rw [hd0]
  refine⟨b',p1,p,[-d,1],100,9,rfl,(same_upd np1 _).seq hB,SqL.of upd_same,by omega,by simp,b0,fun y hy=>?_,by omega,fun ws nw lw cw F2 H2 s2 nF2 eF2=>?_⟩
  ·simp at hy
   rcases hy with rfl | rfl
   ·exact Bd.of_lt (m:=512) (by omega) (by decide)
   ·exact Bd.one (by decide)
  ·rw [nml_ext nw (pd_nml _ _) (fun j=>by rw [cw j,pd_co]),← md,hd'] at eF2
   exact hR' F2 H2 ((same_upd np1 _).trans s2) ((same_upd np1 _).free nF2) eF2
 intro σ Hx hm
 obtain⟨G,gs,qs,rfl,eG,lg,ndg,Gg,ngs,nG,sx,lq,bq,hq⟩:=(hM _ _).mp hm
 dsimp only [a_seq]
 k_typeOf
 refine⟨a,ns,44,rfl,sx.seq hA,?_⟩
 obtain⟨y,hy⟩:∃y,cell ns 44=y:=⟨_,rfl⟩
 rw [hy]
 refine⟨_,rfl,by decide,?_⟩
 have lgq:=lg.len
 have bq2:∀p∈qs,p.length<=64∧∀x∈p,Bd 200 x:=fun p h=>⟨by have:=(bq p h).2.1;omega,fun x hx=>((bq p h).2.2 x hx).mono (by decide)⟩
 dsimp only [a_seq]
 k_typeOf
 refine ite2 (fun h3=>⟨by decide,fun p np=>q [] (by decide) (by simp) (fun z=>absurd z IsRule.nils) p [] _ (sx.trans (same_upd np _)) upd_same (LH.nil _)⟩) (fun h3=>?_)
 dsimp only [a_seq]
 k_typeOf
 refine ite2 (fun h4=>?_) (fun h4=>?_)
 ·refine⟨by decide,fun p np=>⟨by decide,fun p1 np1=>?_⟩⟩
  have u1:=same_upd np (.lst [])
  have u2:=same_upd np1 (.lst [V.ref p])
  have ep:upd (upd Hx p (.lst [])) p1 (.lst [V.ref p]) p=some (.lst (([]:List Int).map V.int)):=u2 _ _ upd_same
  refine⟨_,(u1.trans u2) _ _ eG,_,upd_same,by rw [List.length_map,sizeLine_eq];simp;omega,fun p2 np2=>?_⟩
  have u3:=same_upd np2 (.lst (gs.map V.ref++[V.ref p]))
  refine q (qs++[[]]) (by simp;omega) (fun r h=>?_) (fun z=>absurd z IsRule.nl) p2 (gs++[p]) _ (sx.trans (u1.trans (u2.trans u3))) (by rw [upd_same];simp) (LH.snoc (lg.same (u1.trans (u2.trans u3))) (u3 _ _ ep))
  rcases List.mem_append.mp h with z | z
  ·exact bq2 r z
  ·rw [List.mem_singleton.mp z];simp
 obtain⟨M2,hM2⟩:∃M2:L2.St->Hp->Prop,∀σ Hy,M2 σ Hy↔∃(us:List (List Int)),σ=[some (V.ref a),some (V.ref R),some (V.int c),some (V.ref G),some (V.int (y % 12))]∧Hy G=some (.lst (gs.map V.ref))∧LH Hy gs us∧Same H Hy∧us.length<=6∧(∀p∈us,p.length<=64∧∀x∈p,Bd 200 x)∧(IsRule us->if c % 4=3 then ∃c:Int,60<=c∧us=ps.map (mulR [c]) else us=ps):=⟨_,fun _ _=>Iff.rfl⟩
 refine mid_of M2 ?_ ?_
 ·k_units
  refine ite2 (fun h5=>?_) (fun h5=>(hM2 _ _).mpr ⟨qs,rfl,eG,lg,sx,by omega,bq2,fun _=>hq⟩)
  have hl0:0 < gs.length:=by have:=List.length_pos_iff.mpr ne;omega
  obtain⟨j,hj,hj2⟩:∃j:Nat,cell ns 44 / 12 % ((gs.map V.ref).length:Int)=(j:Int)∧j < gs.length:=by
   have h1:=Int.emod_nonneg (cell ns 44 / 12) (show ((gs.map V.ref).length:Int)≠0 by rw [List.length_map];omega)
   have h2:=Int.emod_lt_of_pos (cell ns 44 / 12) (show (0:Int) < ((gs.map V.ref).length:Int) by rw [List.length_map];omega)
   rw [List.length_map] at h1 h2 ⊢
   exact⟨(cell ns 44 / 12 % (gs.length:Int)).toNat,by omega,by omega⟩
  have at1:atI (gs.map V.ref) (j:Int)=some (V.ref gs[j]):=atI_nat (by rw [List.getElem?_map,List.getElem?_eq_getElem hj2];rfl)
  have hj3:j < qs.length:=by omega
  have ej:=lg.get j gs[j] qs[j] (List.getElem?_eq_getElem hj2) (List.getElem?_eq_getElem hj3)
  have hbj:=bq qs[j] (List.getElem_mem hj3)
  have nj:H gs[j]=none:=ngs _ (List.getElem_mem hj2)
  refine⟨a,ns,44,rfl,sx.seq hA,_,rfl,⟨by decide,by decide⟩,_,.inl (SqL.of eG),by rw [List.length_map];omega,_,SqL.of eG,V.ref gs[j],by rw [hj];exact at1,a_tyL (SqL.of ej),_,rfl,_,ej,by rw [List.length_map];exact small1000 (by have:=hbj.2.1;omega),?_⟩
  have e0:qs[j].map V.int++[V.int 0]=(qs[j]++[0]).map V.int:=by simp
  rw [e0]
  refine (hM2 _ _).mpr ⟨qs.set j (qs[j]++[0]),rfl,by rw [upd_ne (fun z=>Gg (by rw [z];exact List.getElem_mem hj2))];exact eG,lg.updAt ndg (List.getElem?_eq_getElem hj2),sx.more nj,by rw [List.length_set];omega,fun r h=>?_,fun z=>?_⟩
  ·rcases List.mem_or_eq_of_mem_set h with z | z
   ·exact bq2 r z
   ·rw [z]
    refine⟨by have:=hbj.2.1;simp;omega,fun x hx=>?_⟩
    rcases List.mem_append.mp hx with w | w
    ·exact (hbj.2.2 x w).mono (by decide)
    ·rw [List.mem_singleton.mp w];exact Bd.of_lt (m:=1) (by decide) (by decide)
  ·exact absurd (z.2.2 _ (List.mem_of_getElem? (List.getElem?_set_self hj3))) nml_app0
 intro σ Hy hm
 obtain⟨us,rfl,eGy,ly,sy,l6,bu,hu⟩:=(hM2 _ _).mp hm
 k_units
 exact q us l6 bu hu G gs Hy sy eGy ly
theorem dv_L {K:W.Frag} {H:Hp} {a:Addr} {p:List Int} (h:SqL K H a (p.map V.int)):DV K H (.ref a) (dL p):=.lst h (DVs.ints _)
theorem eq_dL (p q:List Int):PyData.eqv (dL p) (dL q)=decide (p=q):=by simp [dL,PyData.eqv,eqvAll_ints]
theorem lay_dL (p:List Int):PyData.canLay0 (dL p)=true:=by simp [dL,PyData.canLay0,lay_ints]
theorem dep_dL (p:List Int):PyData.depth (dL p)<=64:=by simp [dL,PyData.depth,depth_ints]
theorem cut_lastI (p:List Int):∃q:List Int,cutV (p.map V.int) (some (-1)) none=q.map V.int∧(q=[0]↔¬Nml p):=by
 rcases List.eq_nil_or_concat p with rfl | ⟨xs,a,rfl⟩
 ·exact⟨[],rfl,by simp [nml_nil]⟩
 ·refine⟨[a],?_,?_⟩
  ·unfold cutV
   have e:HT.sIx ((xs++[a]).map V.int).length 0 (some (-1))=xs.length:=by
    unfold HT.sIx
    dsimp only
    rw [if_pos (by decide)];simp;omega
   rw [List.concat_eq_append,e,HT.sIx_none,← List.map_drop]
   simp
  ·rw [List.concat_eq_append]
   constructor
   ·intro z
    cases z
    exact nml_app0
   ·intro z
    by_cases h:a=0
    ·rw [h]
    ·exact absurd (nml_last.mpr fun x hx=>by rw [List.getLast?_concat] at hx;cases hx;exact h) z
def duV (k n:Nat):List V:=[.int (k:Int),if k=3 then .int (n:Int) else .non]
def spDue (K:W.Frag):Sp:=fun vs H Q _=>∃(R Vp:Addr) (as bs:List Addr) (ps:List (List Int)) (fs:List (Int×Int)) (g:Bool) (many:Nat),vs=[.ref R,.ref Vp,.bl g,.int (many:Int)]∧H R=some (.lst (as.map V.ref))∧LH H as ps∧H Vp=some (.lst (bs.map V.ref))∧TH H bs fs∧Sml ps fs∧
 (g=true->IsRule ps->∀j:Nat,j<=60->clr j (ps.getLastD [])=false)∧(g=false->IsRule ps->∃m,Nd ps m∧many+1=ps.length+m)∧
 ∀(k n:Nat),Vd ps fs k n->∀(r:Addr) (H':Hp),Same H H'->H' r=some (.tup (duV k n))->Q (.ref r) H'
theorem ok__law_due {P:Program} {w:World} {K:W.Frag} {mg:Str->Option Value} {base:Heap} (T:Tx K mg):FnOk P w K mg base CX0 3 T.a__law_due T.fd__law_due ["_law_rule_here","_law_values_here","_law_great","_law_many"] (spDue K):=by
 refine T.F__law_due.ok sc__law_due (fun vs H Q E h=>?_) (fun cdv A outer s H vs Q E hr h=>?_)
 ·obtain⟨R,Vp,as,bs,ps,fs,g,many,rfl,_⟩:=h
  rfl
 obtain⟨R,Vp,as,bs,ps,fs,g,many,rfl,hR,lh,hV,th,S,hg1,hg2,q⟩:=h
 refine⟨_,((pss_cons (ps_if (PW.pt (pw_or (pt_cmpR (op_eqD hr.units) (pv 0) (pe_lst pa_nil) (nomark _)) (pw_or (pt_cmpR (op_eqD hr.units) (pe_ix ix_list (pv 0) (pe_un un_neg pe_int) (fun _ _=>rfl)) (pe_lst pa_nil) (nomark _)) (pw_or1 (pt_cmpR (op_neD hr.units) (pe_lcompIf rfl (blkok rfl sub_nil fv_nil) (pi_list (pv 0)) (fun _ _ _ _=>(pt_cmpR (op_eqDK (K:=K) rfl hr.units) (pe_slice (sl_listK (K:=K) rfl) (pv 0) (po_some (pe_un un_neg pe_int)) po_none) (pe_lst (pa_cons pe_int pa_nil)) (nomark _))) (fun _ _ _ _=>(pv 0))) (pe_lst pa_nil) (nomark _)))))) (pss_one (ps_ret (pe_tup (pa_cons pe_int (pa_cons pe_non pa_nil))))) pss_nil)
  (pss_cons (ps_if (pt_val (pv 2)) (pss_one (ps_ret (pe_tup (pa_cons pe_int (pa_cons pe_non pa_nil))))) pss_nil)
  (pss_cons (ps_if (pt_cmpR op_lt (pe_callB call_len_seq rfl T.z_len bt_len (pa_cons (pv 1) pa_nil)) (pv 3) (nomark _)) (pss_one (ps_ret (pe_tup (pa_cons pe_int (pa_cons pe_non pa_nil))))) pss_nil)
  (pss_cons (ps_for PassesOwn.never rfl (pi_range1 rfl T.z_range (pa_cons (pe_op op_add (pe_op op_sub (pe_callB call_len_seq rfl T.z_len bt_len (pa_cons (pv 1) pa_nil)) (pe_callB call_len_seq rfl T.z_len bt_len (pa_cons (pv 0) pa_nil))) pe_int) pa_nil)) (pg_name (i:=4) sc__law_due.nd rfl (Or.inl rfl)) (pss_one (ps_if (pt_cmpR op_ne (pe_ix ix_tup (pe_call (FnOk.mono (ok__law_weighed T) (by decide)) hr rfl T.m__law_weighed T.F__law_weighed.kp T.b__law_weighed .nil pass0 (pa_cons (pv 0) (pa_cons (pv 1) (pa_cons (pv 4) pa_nil)))) pe_int (fun _ _=>rfl)) pe_int (nomark _)) (pss_one (ps_ret (pe_tup (pa_cons pe_int (pa_cons (pv 4) pa_nil))))) pss_nil)))
  (pss_one (ps_ret (pe_tup (pa_cons pe_int (pa_cons pe_non pa_nil)))))))))),?_⟩
 dsimp only [a_seq]
 k_typeOf
 have none0:∀r Hx,Same H Hx->Hx r=none->¬IsRule ps->Q (V.ref r) (upd Hx r (.tup [V.int 0,V.non])):=fun r Hx sx nr hn=>q 0 0 (.inl ⟨rfl,hn⟩) r _ (sx.trans (same_upd nr _)) upd_same
 refine⟨by decide,fun p np=>?_⟩
 have u1:=same_upd np (.lst [])
 have ep:upd H p (.lst []) p=some (.lst (([]:List Addr).map V.ref)):=upd_same
 refine⟨_,dv_ll (SqL.of (u1 _ _ hR)) (lh.same u1).ll,_,dv_ll (ps:=[]) (SqL.of ep) (LH.nil _).ll,lay_ll _,lay_ll _,dep_ll _,?_⟩
 rw [eqv_llD]
 refine ite2 (fun h=>⟨by decide,fun r nr=>none0 r _ u1 nr (fun z=>z.1 (of_decide_eq_true h))⟩) (fun h=>?_)
 have ne:ps≠[]:=fun z=>h (decide_eq_true z)
 generalize upd H p (.lst [])=H1 at u1 ⊢
 obtain⟨a0,p0,e1,e2,e3,hp0⟩:=(lh.ll (K:=K)).lastAt ne
 refine⟨_,SqL.of (u1 _ _ hR),_,e1,by decide,fun p1 np1=>?_⟩
 have u2:=u1.trans (same_upd np1 (.lst []))
 have ep1:upd H1 p1 (.lst []) p1=some (.lst (([]:List Int).map V.int)):=upd_same
 refine⟨_,dv_L (u2.seq hp0),_,dv_L (SqL.of ep1),lay_dL _,lay_dL _,dep_dL _,?_⟩
 rw [eq_dL]
 refine ite2 (fun h2=>⟨by decide,fun r nr=>none0 r _ u2 nr (fun z=>z.2.1 p0 e3 (of_decide_eq_true h2))⟩) (fun h2=>?_)
 have ne0:p0≠[]:=fun z=>h2 (decide_eq_true z)
 generalize upd H1 p1 (.lst [])=H2 at u2 ⊢
 have l6:=S.l6
 have l4:=S.l4
 refine⟨⟨_,SqL.of (u2 _ _ hR)⟩,fun D nD=>?_⟩
 obtain⟨Pc,hPc⟩:∃Pc:Nat->Hp->Prop,∀i Hx,Pc i Hx↔∃(cs:List Addr) (qs:List (List Int)),Hx D=some (.lst (cs.map V.ref))∧LH Hx cs qs∧qs.length<=i∧(qs=[]↔∀x∈ps.take i,Nml x)∧D∉cs∧Same H2 Hx:=⟨_,fun _ _=>Iff.rfl⟩
 refine cl_listIf (xs:=as.map V.ref) Pc ((hPc _ _).mpr ⟨[],[],upd_same,LH.nil _,Nat.le_refl _,by simp,by simp,same_upd nD _⟩) (fun i Hx _ z=>by obtain⟨_,_,_,_,_,_,_,z⟩:=(hPc i Hx).mp z;exact z.seq (SqL.of (u2 _ _ hR))) ?_ ?_
 ·intro i v Hx hv hc
  obtain⟨cs,qs,k1,k2,k3,k4,k6,k5⟩:=(hPc _ _).mp hc
  have sx:=u2.trans k5
  obtain⟨b,p',rfl,hb,hp',hB⟩:=(lh.same sx).ll.nth (K:=K) hv
  have hi:i < ps.length:=(List.getElem?_eq_some_iff.mp hp').1
  have et:ps.take (i+1)=ps.take i++[p']:=by rw [List.take_succ,hp'];rfl
  (iterate 3 (k_units;(try simp only [bst,Option.getD_some]));k_units)
  refine⟨_,hB,fun p2 np2=>⟨by decide,fun p3 np3=>?_⟩⟩
  obtain⟨q0,ec,hq0⟩:=cut_lastI p'
  rw [ec] at np3 ⊢
  have v2:=same_upd np2 (.lst (q0.map V.int))
  have v3:=same_upd np3 (.lst [V.int 0])
  have e2:upd (upd Hx p2 (.lst (q0.map V.int))) p3 (.lst [V.int 0]) p2=some (.lst (q0.map V.int)):=v3 _ _ upd_same
  have e3':upd (upd Hx p2 (.lst (q0.map V.int))) p3 (.lst [V.int 0]) p3=some (.lst (([0]:List Int).map V.int)):=upd_same
  have v23:=v2.trans v3
  generalize upd (upd Hx p2 (.lst (q0.map V.int))) p3 (.lst [V.int 0])=Hy at e2 e3' v23 ⊢
  refine⟨_,dv_L (SqL.of e2),_,dv_L (SqL.of e3'),lay_dL _,lay_dL _,dep_dL _,?_⟩
  rw [eq_dL]
  refine ite2 (fun h5=>?_) (fun h5=>(hPc _ _).mpr ⟨cs,qs,v23 _ _ k1,k2.same v23,by omega,?_,k6,k5.trans v23⟩)
  ·have nn:=hq0.mp (of_decide_eq_true h5)
   have lk:=k2.len
   have eb0:=lh.get i b p' hb hp'
   have eb:=(sx.trans v23) _ _ eb0
   have nbD:D∉cs++[b]:=fun z=>by
    rcases List.mem_append.mp z with w | w
    ·exact k6 w
    ·rw [List.mem_singleton.mp w,u2 _ _ eb0] at nD;cases nD
   refine⟨_,v23 _ _ k1,by rw [List.length_map];exact small1000 (by omega),(hPc _ _).mpr ⟨cs++[b],qs++[p'],by rw [upd_same];simp,?_,by simp;omega,?_,nbD,(k5.trans v23).more nD⟩⟩
   ·exact LH.upd (LH.snoc (k2.same v23) eb) nbD
   ·constructor
    ·intro z;simp at z
    ·intro z;exact absurd (z p' (by rw [et];simp)) nn
  ·have nn:Nml p':=Classical.not_not.mp fun z=>h5 (decide_eq_true (hq0.mpr z))
   rw [k4,et]
   constructor
   ·intro z x hx
    rcases List.mem_append.mp hx with w | w
    ·exact z x w
    ·rw [List.mem_singleton.mp w];exact nn
   ·intro z x hx
    exact z x (List.mem_append_left _ hx)
 intro H3 hc
 obtain⟨cs,qs,k1,k2,k3,k4,k6,k5⟩:=(hPc _ _).mp hc
 rw [List.length_map,lh.len,List.take_length] at k4
 clear hc hPc Pc
 have u3:=u2.trans k5
 refine⟨by decide,fun p4 np4=>?_⟩
 have u4:=same_upd np4 (.lst [])
 have ep4:upd H3 p4 (.lst []) p4=some (.lst (([]:List Addr).map V.ref)):=upd_same
 refine⟨_,dv_ll (SqL.of (u4 _ _ k1)) (k2.same u4).ll,_,dv_ll (ps:=[]) (SqL.of ep4) (LH.nil _).ll,lay_ll _,lay_ll _,dep_ll _,?_⟩
 rw [eqv_llD]
 have u34:=u3.trans u4
 generalize upd H3 p4 (.lst [])=H4 at u34 ⊢
 refine ite2 (fun h6=>⟨by decide,fun r nr=>none0 r _ u34 nr (fun z=>?_)⟩) (fun h6=>?_)
 ·exact of_decide_eq_false h6 (k4.mpr z.2.2)
 have hall:∀x∈ps,Nml x:=k4.mp (Classical.not_not.mp fun z=>h6 (decide_eq_false z))
 have I:IsRule ps:=⟨ne,fun x hx=>by rw [e3] at hx;cases hx;exact ne0,hall⟩
 clear k1 k2 k3 k4 k5 k6 u3 u4 ep4 np4 nD u2 ep1 np1 u1 ep np h h2 h6
 dsimp only [a_seq]
 k_typeOf
 refine ite2 (fun hg=>⟨by decide,fun r nr=>q 1 0 (.inr (.inl ⟨rfl,I,hg1 hg I⟩)) r _ (u34.trans (same_upd nr _)) upd_same⟩) (fun hg=>?_)
 obtain⟨m,N,hm⟩:=hg2 (by cases g with | true=>exact absurd rfl hg | false=>rfl) I
 have lp:=List.length_pos_iff.mpr ne
 have lb:=th.len
 dsimp only [a_seq]
 k_typeOf
 refine⟨_,.inl (SqL.of (u34 _ _ hV)),?_⟩
 rw [List.length_map,lb]
 refine ite2 (fun h2=>⟨by decide,fun r nr=>q 2 0 (.inr (.inr ⟨m,I,N,.inl ⟨rfl,by omega⟩⟩)) r _ (u34.trans (same_upd nr _)) upd_same⟩) (fun h2=>?_)
 dsimp only [a_seq]
 k_typeOf
 refine⟨_,.inl (SqL.of (u34 _ _ hV)),_,.inl (SqL.of (u34 _ _ hR)),?_⟩
 rw [List.length_map,List.length_map,lb,lh.len]
 obtain⟨c,hc⟩:∃c:Nat,(fs.length:Int) - (ps.length:Int)+1=(c:Int):=⟨fs.length+1 - ps.length,by omega⟩
 rw [hc,Int.toNat_natCast]
 refine⟨by omega,by omega,?_⟩
 obtain⟨Pv,hPv⟩:∃Pv:Nat->L2.St->Hp->Prop,∀i σ H',Pv i σ H'↔∃(r4:Option V),σ=[some (V.ref R),some (V.ref Vp),some (V.bl g),some (V.int (many:Int)),r4]∧Same H H'∧∀j:Nat,j < i->Kp ps fs j:=⟨_,fun _ _ _=>Iff.rfl⟩
 have hb:∀p∈ps,p.length<=64∧∀x∈p,Bd 1300 x:=fun p hp=>⟨(S.b p hp).1,fun x hx=>((S.b p hp).2 x hx).mono (by decide)⟩
 refine lp_range Pv ((hPv _ _ _).mpr ⟨_,rfl,u34,by omega⟩) ?_ ?_
 ·intro i σ H' hi hp
  obtain⟨r4,rfl,sP,hk⟩:=(hPv _ _ _).mp hp
  have e1:(0:Int)+(i:Int)=(i:Int):=Int.zero_add _
  (iterate 3 (k_units;(try simp only [e1]));k_units)
  refine⟨R,Vp,as,bs,ps,fs,i,rfl,SqL.of (sP _ _ hR),(lh.same sP).ll,SqL.of (sP _ _ hV),(th.same sP).tl,l6,by omega,by omega,hb,S.g,fun r H5 s5 er=>?_⟩
  refine⟨r,rfl,_,SqT.of er,_,rfl,?_⟩
  k_units
  refine ite2 (fun hz=>⟨by decide,fun r2 nr2=>q 3 i (.inr (.inr ⟨m,I,N,.inr ⟨by omega,.inl ⟨rfl,by omega,hz,hk⟩⟩⟩)) r2 _ (sP.trans (s5.trans (same_upd nr2 _))) upd_same⟩) (fun hz=>(hPv _ _ _).mpr ⟨_,rfl,sP.trans s5,fun j hj=>?_⟩)
  by_cases z:j=i
  ·rw [z];exact Classical.not_not.mp hz
  ·exact hk j (by omega)
 ·intro σ H' hp
  obtain⟨r4,rfl,sP,hk⟩:=(hPv _ _ _).mp hp
  k_units
  exact⟨by decide,fun r nr=>q 10 0 (.inr (.inr ⟨m,I,N,.inr ⟨by omega,.inr ⟨rfl,fun j hj=>hk j (by omega)⟩⟩⟩)) r _ (sP.trans (same_upd nr _)) upd_same⟩
def rm (S:List Addr) (H:Hp):Hp:=fun b=>if b∈S then none else H b
def SameX (S:List Addr) (H H':Hp):Prop:=∀b o,b∉S->H b=some o->H' b=some o
theorem SameX.trans {S:List Addr} {H H1 H2:Hp} (a:SameX S H H1) (b:SameX S H1 H2):SameX S H H2:=fun c o n h=>b c o n (a c o n h)
theorem same_x {S:List Addr} {H H':Hp} (h:Same H H'):SameX S H H':=fun b o _ e=>h b o e
def Lsts (S:List Addr) (H:Hp):Prop:=∀s∈S,∃xs,H s=some (.lst xs)
theorem Lsts.tup {S:List Addr} {H:Hp} (l:Lsts S H) {b:Addr} {xs:List V} (n:H b=some (.tup xs)):b∉S:=fun z=>by
 obtain⟨xs,e⟩:=l b z
 rw [n] at e;cases e
theorem LH.kept {S:List Addr} {H H':Hp} {as:List Addr} {ps:List (List Int)} (h:LH H as ps) (s:SameX S H H') (n:∀a∈as,a∉S):LH H' as ps:=⟨h.len,fun i a p h1 h2=>s _ _ (n a (List.mem_of_getElem? h1)) (h.get i a p h1 h2)⟩
theorem TH.kept {S:List Addr} {H H':Hp} {as:List Addr} {gs:List (Int×Int)} (h:TH H as gs) (s:SameX S H H') (l:Lsts S H):TH H' as gs:=⟨h.len,fun i a p h1 h2=>s _ _ (l.tup (h.get i a p h1 h2)) (h.get i a p h1 h2)⟩
theorem same_make {H:Hp} {x dx C:Addr} (nx:H x=none) (nd:H dx=none) (ne:dx≠x):Same H (upd (upd H dx (.own x)) x (.ins C dx [])):=
 (same_upd nd _).trans (same_upd (by rw [upd_ne (Ne.symm ne)];exact nx) _)
structure RowAt (C:Addr) (H:Hp) (x dx R L:Addr) (as cs:List Addr) (ps:List (List Int)) (ff:List (Int×Int)) (m k:Nat):Prop where
 hx:H x=some (.ins C dx (rowF R L))
 hR:H R=some (.lst (as.map V.ref))
 hL:LH H as ps
 nRL:R≠L
 nin:L∉as
 hK:H L=some (.lst (cs.map V.ref))
 hT:TH H cs (carryF ps ff k)
 l4:ff.length<=480
 c:Cr ps ff m
theorem RowAt.same {C:Addr} {H H':Hp} {x dx R L:Addr} {as cs:List Addr} {ps:List (List Int)} {ff:List (Int×Int)} {m k:Nat} (r:RowAt C H x dx R L as cs ps ff m k) (s:Same H H'):RowAt C H' x dx R L as cs ps ff m k:=
 ⟨s _ _ r.hx,s _ _ r.hR,r.hL.same s,r.nRL,r.nin,s _ _ r.hK,r.hT.same s,r.l4,r.c⟩
theorem RowAt.on {C:Addr} {H H':Hp} {x dx R L:Addr} {as cs cs':List Addr} {ps:List (List Int)} {ff:List (Int×Int)} {m k k':Nat} (r:RowAt C H x dx R L as cs ps ff m k) {S:List Addr} (s:SameX S H H') (lS:Lsts S H) (nR:R∈S->R=L) (na:∀a∈as,a∈S->a=L) (eK:H' L=some (.lst (cs'.map V.ref))) (eT:TH H' cs' (carryF ps ff k')):RowAt C H' x dx R L as cs' ps ff m k':=
 ⟨s _ _ (fun z=>by obtain⟨xs,e⟩:=lS _ z;rw [r.hx] at e;cases e) r.hx,s _ _ (fun z=>r.nRL (nR z)) r.hR,r.hL.kept s (fun a ha z=>r.nin (by rw [← na a ha z];exact ha)),r.nRL,r.nin,eK,eT,r.l4,r.c⟩
theorem row_made {C:Addr} {H H':Hp} {x dx R L:Addr} {as cs:List Addr} {ps:List (List Int)} {ff:List (Int×Int)} {m:Nat} (nx:H x=none) (nd:H dx=none) (ne:dx≠x)
  (kp:∀b o,b≠x->upd (upd H dx (.own x)) x (.ins C dx []) b=some o->H' b=some o) (nR:upd (upd H dx (.own x)) x (.ins C dx []) R=none) (nL:upd (upd H dx (.own x)) x (.ins C dx []) L=none) (nas:∀b∈as,upd (upd H dx (.own x)) x (.ins C dx []) b=none)
  (nRL:R≠L) (nin:L∉as) (hx:H' x=some (.ins C dx (rowF R L))) (hR:H' R=some (.lst (as.map V.ref))) (hL:LH H' as ps) (hK:H' L=some (.lst (cs.map V.ref))) (hT:TH H cs ff) (l4:ff.length<=480) (c:Cr ps ff m):
  Same H H'∧RowAt C H' x dx R L as cs ps ff m 0∧H R=none∧H L=none∧∀b∈as,H b=none:=by
 have s1:=same_make (C:=C) nx nd ne
 have s2:Same H H':=fun b o e=>kp b o (fun z=>by rw [z,nx] at e;cases e) (s1 b o e)
 exact⟨s2,⟨hx,hR,hL,nRL,nin,hK,hT.same s2,l4,c⟩,s1.free nR,s1.free nL,fun b hb=>s1.free (nas b hb)⟩
theorem RowAt.keep {C:Addr} {H H':Hp} {x dx R L:Addr} {as cs:List Addr} {ps:List (List Int)} {ff:List (Int×Int)} {m k:Nat} (r:RowAt C H x dx R L as cs ps ff m k) {S:List Addr} (s:SameX S H H') (lS:Lsts S H) (nR:R∉S) (na:∀a∈as,a∉S) (nL:L∉S):RowAt C H' x dx R L as cs ps ff m k:=
 r.on s lS (fun z=>absurd z nR) (fun a ha z=>absurd z (na a ha)) (s _ _ nL r.hK) (r.hT.kept s lS)
def cK {K:W.Frag} {mg:Str->Option Value} (T:Tx K mg) (k:Nat):Addr:=if k=0 then T.c_NoRule else if k=1 then T.c_TooGreat else if k=2 then T.c_TooFew else T.c_NotKept
def Ct {K:W.Frag} {mg:Str->Option Value} (T:Tx K mg) (k:Nat) (v:V) (H:Hp):Prop:=(k=10∧v=.non)∨(k<=3∧∃e od,v=.ref e∧H e=some (IsExc e (cK T k) od))
def spCaught {K:W.Frag} {mg:Str->Option Value} (T:Tx K mg):Sp:=fun vs H Q _=>∃(g:Bool) (R Vp:Addr) (as bs:List Addr) (ps:List (List Int)) (fs:List (Int×Int)) (k n:Nat),vs=[.bl g,.ref R,.ref Vp]∧H R=some (.lst (as.map V.ref))∧LH H as ps∧H Vp=some (.lst (bs.map V.ref))∧TH H bs fs∧Sml ps fs∧Vd ps fs k n∧(k=10->∀i,fs.length+i<=3->Good (carryF ps fs i))∧
 ∀v H',Same H H'->Ct T k v H'->Q v H'
theorem ok__law_caught {P:Program} {w:World} {K:W.Frag} {mg:Str->Option Value} {base:Heap} (T:Tx K mg):FnOk P w K mg base CX0 10 T.a__law_caught T.fd__law_caught ["_law_as_row","_law_rule_here","_law_values_here"] (spCaught T):=by
 refine T.F__law_caught.ok sc__law_caught (fun vs H Q E h=>?_) (fun cdv A outer s H vs Q E hr h=>?_)
 ·obtain⟨g,R,Vp,as,bs,ps,fs,k,n,rfl,_⟩:=h
  rfl
 obtain⟨g,R,Vp,as,bs,ps,fs,k,n,rfl,hR,lh,hV,th,S,v,hG,q⟩:=h
 refine⟨_,((pss_cons (ps_set (i:=3) sc__law_caught.nd rfl (Or.inl rfl) pe_non)
  (pss_cons (ps_tryAs (i:=4) ⟨rfl,rfl⟩ (px_if (pt_val (pv 0)) (px_expr (px_make T.mk_Row (FnOk.mono (ok_Row___init__ T) (by decide)) hr rfl T.mc_Row T.b_Row___init__ (pa_cons (pv 1) (pa_cons (pv 2) pa_nil)))) (px_expr (px_call (FnOk.mono (ok_carried_on T) (by decide)) hr rfl T.m_carried_on T.F_carried_on.kp T.b_carried_on (pa_cons (pv 1) (pa_cons (pv 2) (pa_cons pe_int pa_nil)))))) rfl T.mc_SumError sc__law_caught.nd rfl rfl (fun _=>(pss_one (ps_set (i:=3) sc__law_caught.nd rfl (Or.inl rfl) (pv 4)))))
  (pss_one (ps_ret (pv 3)))))),?_⟩
 k_units
 have rf:∀H',Same H H'->Rf T (fun c od H1=>∃C,c=Value.ref C∧Catches K C T.c_SumError∧∀a:Addr,H1 a=none->Q (V.ref a) (upd H1 a (IsExc a C od))) k n H':=fun H' s'=>
  ⟨fun z=>⟨_,rfl,T.kc_NoRule_SumError,fun a na=>q _ _ (s'.trans (same_upd na _)) (.inr ⟨by omega,a,none,rfl,by subst z;exact upd_same⟩)⟩,
   fun z=>⟨_,rfl,T.kc_TooGreat_SumError,fun a na=>q _ _ (s'.trans (same_upd na _)) (.inr ⟨by omega,a,none,rfl,by subst z;exact upd_same⟩)⟩,
   fun z=>⟨_,rfl,T.kc_TooFew_SumError,fun a na=>q _ _ (s'.trans (same_upd na _)) (.inr ⟨by omega,a,none,rfl,by subst z;exact upd_same⟩)⟩,
   fun z d hd=>⟨_,rfl,T.kc_NotKept_SumError,fun a na=>q _ _ (s'.trans (same_upd na _)) (.inr ⟨by omega,a,some d,rfl,by subst z;exact upd_same⟩)⟩⟩
 refine ite2 (fun hg x dx nx nd ne=>?_) (fun hg=>?_)
 ·have sm:=same_make (C:=T.c_Row) nx nd ne
  have up:∀H',(∀b o,b≠x->upd (upd H dx (.own x)) x (.ins T.c_Row dx []) b=some o->H' b=some o)->Same H H':=fun H' kp b o e=>kp b o (fun z=>by rw [z,nx] at e;cases e) (sm b o e)
  exact⟨x,dx,R,Vp,as,bs,ps,fs,k,n,rfl,upd_same,SqL.of (sm _ _ hR),(lh.same sm).ll,SqL.of (sm _ _ hV),th.same sm,S,v,fun H' kp=>rf H' (up H' kp),fun hk R' L as' H' kp _ _ _ _ _ _ _ _ _ _ _=>⟨rfl,q _ _ (up H' kp) (.inl ⟨hk,rfl⟩)⟩⟩
 ·exact⟨R,Vp,as,bs,ps,fs,k,n,3,rfl,SqL.of hR,lh.ll,SqL.of hV,th,by decide,S,v,rf,hG,fun hk D cs H' s' _ _ _=>q _ _ s' (.inl ⟨hk,rfl⟩)⟩
def spPlace {K:W.Frag} {mg:Str->Option Value} (T:Tx K mg):Sp:=fun vs H Q _=>∃(R Vp:Addr) (as bs:List Addr) (ps:List (List Int)) (fs:List (Int×Int)) (n:Nat),vs=[.ref R,.ref Vp]∧H R=some (.lst (as.map V.ref))∧LH H as ps∧H Vp=some (.lst (bs.map V.ref))∧TH H bs fs∧Sml ps fs∧Vd ps fs 3 n∧
 ∀H',Same H H'->Q (.int (n:Int)) H'
theorem ok__law_place {P:Program} {w:World} {K:W.Frag} {mg:Str->Option Value} {base:Heap} (T:Tx K mg):FnOk P w K mg base CX0 10 T.a__law_place T.fd__law_place ["_law_rule_here","_law_values_here"] (spPlace T):=by
 refine T.F__law_place.ok sc__law_place (fun vs H Q E h=>?_) (fun cdv A outer s H vs Q E hr h=>?_)
 ·obtain⟨R,Vp,as,bs,ps,fs,n,rfl,_⟩:=h
  rfl
 obtain⟨R,Vp,as,bs,ps,fs,n,rfl,hR,lh,hV,th,S,v,q⟩:=h
 refine⟨_,((pss_cons (ps_set (i:=2) sc__law_place.nd rfl (Or.inl rfl) pe_non)
  (pss_cons (ps_tryAs (i:=3) ⟨rfl,rfl⟩ (px_expr (px_make T.mk_Row (FnOk.mono (ok_Row___init__ T) (by decide)) hr rfl T.mc_Row T.b_Row___init__ (pa_cons (pv 0) (pa_cons (pv 1) pa_nil)))) rfl T.mc_NotKept sc__law_place.nd rfl rfl (fun _=>(pss_one (ps_set (i:=2) sc__law_place.nd rfl (Or.inl rfl) (pe_xfld T.ec_NotKept T.xf_NotKept_place (pv 3) rfl)))))
  (pss_one (ps_ret (pv 2)))))),?_⟩
 k_units
 intro x dx nx nd ne
 have sm:=same_make (C:=T.c_Row) nx nd ne
 have up:∀H',(∀b o,b≠x->upd (upd H dx (.own x)) x (.ins T.c_Row dx []) b=some o->H' b=some o)->Same H H':=fun H' kp b o e=>kp b o (fun z=>by rw [z,nx] at e;cases e) (sm b o e)
 exact⟨x,dx,R,Vp,as,bs,ps,fs,3,n,rfl,upd_same,SqL.of (sm _ _ hR),(lh.same sm).ll,SqL.of (sm _ _ hV),th.same sm,S,v,fun H' kp=>⟨fun z=>absurd z (by decide),fun z=>absurd z (by decide),fun z=>absurd z (by decide),fun _ d hd=>⟨_,rfl,T.kc_NotKept_NotKept,fun a na=>⟨d,upd_same,_,(same_upd na _) _ _ hd,n,rfl,q _ ((up H' kp).trans (same_upd na _))⟩⟩⟩,fun hk=>absurd hk (by decide)⟩
theorem eqvAll_bls (l:List Bool):PyData.eqvAll (l.map PyData.bool) (l.map PyData.bool)=true:=by
 induction l with
 | nil=>rfl
 | cons x l ih=>simp [PyData.eqvAll,PyData.eqv,ih]
def spIs14 {K:W.Frag} {mg:Str->Option Value} (T:Tx K mg):Sp:=fun vs H Q _=>∃(v:V) (k:Nat),vs=[v,.int (k:Int)]∧Ct T k v H∧∀H',Same H H'->Q (.bl true) H'
theorem ok__law_is {P:Program} {w:World} {K:W.Frag} {mg:Str->Option Value} {base:Heap} (T:Tx K mg):FnOk P w K mg base CX0 2 T.a__law_is T.fd__law_is ["_law_caught_here","_law_at"] (spIs14 T):=by
 refine T.F__law_is.ok sc__law_is (fun vs H Q E h=>?_) (fun cdv A outer s H vs Q E hr h=>?_)
 ·obtain⟨v,k,rfl,_⟩:=h
  rfl
 obtain⟨v,k,rfl,hE,q⟩:=h
 obtain⟨h0,h1,h2,h3,h4,h5,h6,h7,h8,h9,kv⟩:(∀Hx,Same H Hx->XInst K Hx v (.ref T.c_NoRule) (decide (k=0)))∧(∀Hx,Same H Hx->XInst K Hx v (.ref T.c_TooGreat) (decide (k=1)))∧(∀Hx,Same H Hx->XInst K Hx v (.ref T.c_TooFew) (decide (k=2)))∧(∀Hx,Same H Hx->XInst K Hx v (.ref T.c_NotKept) (decide (k=3)))∧(∀Hx,Same H Hx->XInst K Hx v (.ref T.c_NoNumber) (decide (k=4)))∧(∀Hx,Same H Hx->XInst K Hx v (.ref T.c_NoPlace) (decide (k=5)))∧(∀Hx,Same H Hx->XInst K Hx v (.ref T.c_NoTerm) (decide (k=6)))∧(∀Hx,Same H Hx->XInst K Hx v (.ref T.c_NoEnds) (decide (k=7)))∧(∀Hx,Same H Hx->XInst K Hx v (.ref T.c_NoLine) (decide (k=8)))∧(∀Hx,Same H Hx->XInst K Hx v (.ref T.c_NoName) (decide (k=9)))∧((k=10∧v=.non)∨(k<=3∧∀Hx,Same H Hx->XInst K Hx v (.type "ValueError") true)):=by
  rcases hE with ⟨rfl,rfl⟩ | ⟨hk,e,od,rfl,hE⟩
  ·exact⟨fun _ _=>.inr ⟨rfl,T.ki_NoneType_NoRule⟩,fun _ _=>.inr ⟨rfl,T.ki_NoneType_TooGreat⟩,fun _ _=>.inr ⟨rfl,T.ki_NoneType_TooFew⟩,fun _ _=>.inr ⟨rfl,T.ki_NoneType_NotKept⟩,fun _ _=>.inr ⟨rfl,T.ki_NoneType_NoNumber⟩,fun _ _=>.inr ⟨rfl,T.ki_NoneType_NoPlace⟩,fun _ _=>.inr ⟨rfl,T.ki_NoneType_NoTerm⟩,fun _ _=>.inr ⟨rfl,T.ki_NoneType_NoEnds⟩,fun _ _=>.inr ⟨rfl,T.ki_NoneType_NoLine⟩,fun _ _=>.inr ⟨rfl,T.ki_NoneType_NoName⟩,.inl ⟨rfl,rfl⟩⟩
  have:k=0∨k=1∨k=2∨k=3:=by omega
  rcases this with rfl | rfl | rfl | rfl
  ·exact⟨fun Hx s=>.inl ⟨e,_,od,rfl,s _ _ hE,T.ec_NoRule,T.ki_NoRule_NoRule⟩,fun Hx s=>.inl ⟨e,_,od,rfl,s _ _ hE,T.ec_NoRule,T.ki_NoRule_TooGreat⟩,fun Hx s=>.inl ⟨e,_,od,rfl,s _ _ hE,T.ec_NoRule,T.ki_NoRule_TooFew⟩,fun Hx s=>.inl ⟨e,_,od,rfl,s _ _ hE,T.ec_NoRule,T.ki_NoRule_NotKept⟩,fun Hx s=>.inl ⟨e,_,od,rfl,s _ _ hE,T.ec_NoRule,T.ki_NoRule_NoNumber⟩,fun Hx s=>.inl ⟨e,_,od,rfl,s _ _ hE,T.ec_NoRule,T.ki_NoRule_NoPlace⟩,fun Hx s=>.inl ⟨e,_,od,rfl,s _ _ hE,T.ec_NoRule,T.ki_NoRule_NoTerm⟩,fun Hx s=>.inl ⟨e,_,od,rfl,s _ _ hE,T.ec_NoRule,T.ki_NoRule_NoEnds⟩,fun Hx s=>.inl ⟨e,_,od,rfl,s _ _ hE,T.ec_NoRule,T.ki_NoRule_NoLine⟩,fun Hx s=>.inl ⟨e,_,od,rfl,s _ _ hE,T.ec_NoRule,T.ki_NoRule_NoName⟩,.inr ⟨by decide,fun Hx s=>.inl ⟨e,_,od,rfl,s _ _ hE,T.ec_NoRule,T.ki_NoRule_ValueError⟩⟩⟩
  ·exact⟨fun Hx s=>.inl ⟨e,_,od,rfl,s _ _ hE,T.ec_TooGreat,T.ki_TooGreat_NoRule⟩,fun Hx s=>.inl ⟨e,_,od,rfl,s _ _ hE,T.ec_TooGreat,T.ki_TooGreat_TooGreat⟩,fun Hx s=>.inl ⟨e,_,od,rfl,s _ _ hE,T.ec_TooGreat,T.ki_TooGreat_TooFew⟩,fun Hx s=>.inl ⟨e,_,od,rfl,s _ _ hE,T.ec_TooGreat,T.ki_TooGreat_NotKept⟩,fun Hx s=>.inl ⟨e,_,od,rfl,s _ _ hE,T.ec_TooGreat,T.ki_TooGreat_NoNumber⟩,fun Hx s=>.inl ⟨e,_,od,rfl,s _ _ hE,T.ec_TooGreat,T.ki_TooGreat_NoPlace⟩,fun Hx s=>.inl ⟨e,_,od,rfl,s _ _ hE,T.ec_TooGreat,T.ki_TooGreat_NoTerm⟩,fun Hx s=>.inl ⟨e,_,od,rfl,s _ _ hE,T.ec_TooGreat,T.ki_TooGreat_NoEnds⟩,fun Hx s=>.inl ⟨e,_,od,rfl,s _ _ hE,T.ec_TooGreat,T.ki_TooGreat_NoLine⟩,fun Hx s=>.inl ⟨e,_,od,rfl,s _ _ hE,T.ec_TooGreat,T.ki_TooGreat_NoName⟩,.inr ⟨by decide,fun Hx s=>.inl ⟨e,_,od,rfl,s _ _ hE,T.ec_TooGreat,T.ki_TooGreat_ValueError⟩⟩⟩
  ·exact⟨fun Hx s=>.inl ⟨e,_,od,rfl,s _ _ hE,T.ec_TooFew,T.ki_TooFew_NoRule⟩,fun Hx s=>.inl ⟨e,_,od,rfl,s _ _ hE,T.ec_TooFew,T.ki_TooFew_TooGreat⟩,fun Hx s=>.inl ⟨e,_,od,rfl,s _ _ hE,T.ec_TooFew,T.ki_TooFew_TooFew⟩,fun Hx s=>.inl ⟨e,_,od,rfl,s _ _ hE,T.ec_TooFew,T.ki_TooFew_NotKept⟩,fun Hx s=>.inl ⟨e,_,od,rfl,s _ _ hE,T.ec_TooFew,T.ki_TooFew_NoNumber⟩,fun Hx s=>.inl ⟨e,_,od,rfl,s _ _ hE,T.ec_TooFew,T.ki_TooFew_NoPlace⟩,fun Hx s=>.inl ⟨e,_,od,rfl,s _ _ hE,T.ec_TooFew,T.ki_TooFew_NoTerm⟩,fun Hx s=>.inl ⟨e,_,od,rfl,s _ _ hE,T.ec_TooFew,T.ki_TooFew_NoEnds⟩,fun Hx s=>.inl ⟨e,_,od,rfl,s _ _ hE,T.ec_TooFew,T.ki_TooFew_NoLine⟩,fun Hx s=>.inl ⟨e,_,od,rfl,s _ _ hE,T.ec_TooFew,T.ki_TooFew_NoName⟩,.inr ⟨by decide,fun Hx s=>.inl ⟨e,_,od,rfl,s _ _ hE,T.ec_TooFew,T.ki_TooFew_ValueError⟩⟩⟩
  ·exact⟨fun Hx s=>.inl ⟨e,_,od,rfl,s _ _ hE,T.ec_NotKept,T.ki_NotKept_NoRule⟩,fun Hx s=>.inl ⟨e,_,od,rfl,s _ _ hE,T.ec_NotKept,T.ki_NotKept_TooGreat⟩,fun Hx s=>.inl ⟨e,_,od,rfl,s _ _ hE,T.ec_NotKept,T.ki_NotKept_TooFew⟩,fun Hx s=>.inl ⟨e,_,od,rfl,s _ _ hE,T.ec_NotKept,T.ki_NotKept_NotKept⟩,fun Hx s=>.inl ⟨e,_,od,rfl,s _ _ hE,T.ec_NotKept,T.ki_NotKept_NoNumber⟩,fun Hx s=>.inl ⟨e,_,od,rfl,s _ _ hE,T.ec_NotKept,T.ki_NotKept_NoPlace⟩,fun Hx s=>.inl ⟨e,_,od,rfl,s _ _ hE,T.ec_NotKept,T.ki_NotKept_NoTerm⟩,fun Hx s=>.inl ⟨e,_,od,rfl,s _ _ hE,T.ec_NotKept,T.ki_NotKept_NoEnds⟩,fun Hx s=>.inl ⟨e,_,od,rfl,s _ _ hE,T.ec_NotKept,T.ki_NotKept_NoLine⟩,fun Hx s=>.inl ⟨e,_,od,rfl,s _ _ hE,T.ec_NotKept,T.ki_NotKept_NoName⟩,.inr ⟨by decide,fun Hx s=>.inl ⟨e,_,od,rfl,s _ _ hE,T.ec_NotKept,T.ki_NotKept_ValueError⟩⟩⟩
 refine⟨_,((pss_mid (ps_set (i:=2) sc__law_is.nd rfl (Or.inl rfl) (pe_lst (pa_cons (pe_callB call_isinstX rfl T.z_isinstance bt_isinstance (pa_cons (pv 0) (pa_cons (pe_glob (v:=.ref T.c_NoRule) rfl T.mc_NoRule rfl) pa_nil))) (pa_cons (pe_callB call_isinstX rfl T.z_isinstance bt_isinstance (pa_cons (pv 0) (pa_cons (pe_glob (v:=.ref T.c_TooGreat) rfl T.mc_TooGreat rfl) pa_nil))) (pa_cons (pe_callB call_isinstX rfl T.z_isinstance bt_isinstance (pa_cons (pv 0) (pa_cons (pe_glob (v:=.ref T.c_TooFew) rfl T.mc_TooFew rfl) pa_nil))) pa_nil)))))
  (pss_mid (ps_set (i:=2) sc__law_is.nd rfl (Or.inl rfl) (pe_op op_cat (pv 2) (pe_lst (pa_cons (pe_callB call_isinstX rfl T.z_isinstance bt_isinstance (pa_cons (pv 0) (pa_cons (pe_glob (v:=.ref T.c_NotKept) rfl T.mc_NotKept rfl) pa_nil))) (pa_cons (pe_callB call_isinstX rfl T.z_isinstance bt_isinstance (pa_cons (pv 0) (pa_cons (pe_glob (v:=.ref T.c_NoNumber) rfl T.mc_NoNumber rfl) pa_nil))) (pa_cons (pe_callB call_isinstX rfl T.z_isinstance bt_isinstance (pa_cons (pv 0) (pa_cons (pe_glob (v:=.ref T.c_NoPlace) rfl T.mc_NoPlace rfl) pa_nil))) pa_nil))))))
  (pss_mid (ps_set (i:=2) sc__law_is.nd rfl (Or.inl rfl) (pe_op op_cat (pv 2) (pe_lst (pa_cons (pe_callB call_isinstX rfl T.z_isinstance bt_isinstance (pa_cons (pv 0) (pa_cons (pe_glob (v:=.ref T.c_NoTerm) rfl T.mc_NoTerm rfl) pa_nil))) (pa_cons (pe_callB call_isinstX rfl T.z_isinstance bt_isinstance (pa_cons (pv 0) (pa_cons (pe_glob (v:=.ref T.c_NoEnds) rfl T.mc_NoEnds rfl) pa_nil))) (pa_cons (pe_callB call_isinstX rfl T.z_isinstance bt_isinstance (pa_cons (pv 0) (pa_cons (pe_glob (v:=.ref T.c_NoLine) rfl T.mc_NoLine rfl) pa_nil))) pa_nil))))))
  (pss_mid (ps_set (i:=2) sc__law_is.nd rfl (Or.inl rfl) (pe_op op_cat (pv 2) (pe_lst (pa_cons (pe_callB call_isinstX rfl T.z_isinstance bt_isinstance (pa_cons (pv 0) (pa_cons (pe_glob (v:=.ref T.c_NoName) rfl T.mc_NoName rfl) pa_nil))) pa_nil))))
  (pss_cons (ps_if (pt_cmpR (op_neD hr.units) (pv 2) (pe_lcomp rfl (blkok rfl (sub_cons rfl sub_nil) (fv_cons 1 "_law_at" (by decide) rfl (Or.inl rfl) (Or.inl rfl) ⟨_,rfl⟩ fv_nil)) (pi_range1 rfl T.z_range (pa_cons pe_int pa_nil)) (fun _ _ _ _=>(pe_cmpR op_eq (pv 0) (pv 1) (nomark _)))) (nomark _)) (pss_one (ps_ret pe_bl)) pss_nil)
  (pss_one (ps_ret (pe_or (pe_and (pe_cmpR op_eq (pv 1) pe_int (nomark _)) (pe_one (pe_cmpR op_isN (pv 0) pe_non (nomark _)))) (pe_one (pe_callB call_isinstX rfl T.z_isinstance bt_isinstance (pa_cons (pv 0) (pa_cons (pe_bltn (v:=.ty "ValueError") rfl T.z_ValueError bt_ValueError rfl) pa_nil))))))))))))),?_⟩
 obtain⟨M,hM⟩:∃M:L2.St->Hp->Prop,∀σ Hx,M σ Hx↔∃D:Addr,σ=[some v,some (V.int (k:Int)),some (V.ref D)]∧Hx D=some (.lst [V.bl (decide (k=0)),V.bl (decide (k=1)),V.bl (decide (k=2))])∧Same H Hx:=⟨_,fun _ _=>Iff.rfl⟩
 refine mid_of M ?_ ?_
 ·k_units
  have r:=Same.refl H
  exact⟨_,rfl,_,h0 _ r,_,rfl,_,h1 _ r,_,rfl,_,h2 _ r,by decide,fun D nD=>(hM _ _).mpr ⟨D,rfl,upd_same,same_upd nD _⟩⟩
 intro σ G1 hm
 obtain⟨D1,rfl,g1,w1⟩:=(hM _ _).mp hm
 clear hm hM M
 obtain⟨M,hM⟩:∃M:L2.St->Hp->Prop,∀σ Hx,M σ Hx↔∃D:Addr,σ=[some v,some (V.int (k:Int)),some (V.ref D)]∧Hx D=some (.lst [V.bl (decide (k=0)),V.bl (decide (k=1)),V.bl (decide (k=2)),V.bl (decide (k=3)),V.bl (decide (k=4)),V.bl (decide (k=5))])∧Same H Hx:=⟨_,fun _ _=>Iff.rfl⟩
 refine mid_of M ?_ ?_
 ·k_units
  exact⟨_,rfl,_,h3 _ w1,_,rfl,_,h4 _ w1,_,rfl,_,h5 _ w1,by decide,fun pa na=>⟨_,same_upd na _ _ _ g1,_,upd_same,Nat.le_of_lt (small1000 (by simp)),fun D nD=>(hM _ _).mpr ⟨D,rfl,upd_same,w1.trans ((same_upd na _).trans (same_upd nD _))⟩⟩⟩
 intro σ G2 hm
 obtain⟨D2,rfl,g2,w2⟩:=(hM _ _).mp hm
 clear hm hM M
 obtain⟨M,hM⟩:∃M:L2.St->Hp->Prop,∀σ Hx,M σ Hx↔∃D:Addr,σ=[some v,some (V.int (k:Int)),some (V.ref D)]∧Hx D=some (.lst [V.bl (decide (k=0)),V.bl (decide (k=1)),V.bl (decide (k=2)),V.bl (decide (k=3)),V.bl (decide (k=4)),V.bl (decide (k=5)),V.bl (decide (k=6)),V.bl (decide (k=7)),V.bl (decide (k=8))])∧Same H Hx:=⟨_,fun _ _=>Iff.rfl⟩
 refine mid_of M ?_ ?_
 ·k_units
  exact⟨_,rfl,_,h6 _ w2,_,rfl,_,h7 _ w2,_,rfl,_,h8 _ w2,by decide,fun pa na=>⟨_,same_upd na _ _ _ g2,_,upd_same,Nat.le_of_lt (small1000 (by simp)),fun D nD=>(hM _ _).mpr ⟨D,rfl,upd_same,w2.trans ((same_upd na _).trans (same_upd nD _))⟩⟩⟩
 intro σ G3 hm
 obtain⟨D3,rfl,g3,w3⟩:=(hM _ _).mp hm
 clear hm hM M
 obtain⟨M,hM⟩:∃M:L2.St->Hp->Prop,∀σ Hx,M σ Hx↔∃D:Addr,σ=[some v,some (V.int (k:Int)),some (V.ref D)]∧Hx D=some (.lst [V.bl (decide (k=0)),V.bl (decide (k=1)),V.bl (decide (k=2)),V.bl (decide (k=3)),V.bl (decide (k=4)),V.bl (decide (k=5)),V.bl (decide (k=6)),V.bl (decide (k=7)),V.bl (decide (k=8)),V.bl (decide (k=9))])∧Same H Hx:=⟨_,fun _ _=>Iff.rfl⟩
 refine mid_of M ?_ ?_
 ·k_units
  exact⟨_,rfl,_,h9 _ w3,by decide,fun pa na=>⟨_,same_upd na _ _ _ g3,_,upd_same,Nat.le_of_lt (small1000 (by simp)),fun D nD=>(hM _ _).mpr ⟨D,rfl,upd_same,w3.trans ((same_upd na _).trans (same_upd nD _))⟩⟩⟩
 intro σ G4 hm
 obtain⟨D4,rfl,g4,w4⟩:=(hM _ _).mp hm
 clear hm hM M
 k_units
 refine⟨by decide,by decide,fun D hD=>?_⟩
 obtain⟨Pc,hPc⟩:∃Pc:Nat->Hp->Prop,∀i H',Pc i H'↔H' D=some (.lst ((List.range i).map fun j:Nat=>V.bl (decide ((j:Int)=(k:Int)))))∧Same G4 H':=⟨_,fun _ _=>Iff.rfl⟩
 refine cl_range Pc ((hPc _ _).mpr ⟨upd_same,same_upd hD _⟩) ?_ ?_
 ·intro i Hx hi hc
  obtain⟨k1,k2⟩:=(hPc _ _).mp hc
  have e0:(0:Int)+(i:Int)=(i:Int):=Int.zero_add _
  have hi10:i < 10:=hi
  (iterate 3 (k_units;(try simp only [bst,e0,Option.getD_some]));k_units)
  refine⟨_,k1,by rw [List.length_map,List.length_range];exact small1000 (by omega),(hPc _ _).mpr ⟨?_,k2.more hD⟩⟩
  rw [upd_same,List.range_succ,List.map_append];rfl
 intro H1 hc
 obtain⟨k1,k2⟩:=(hPc _ _).mp hc
 have dvb:∀(Hx:Hp) (l:List Bool),DVs K Hx (l.map V.bl) (l.map PyData.bool):=fun Hx l=>by
  induction l with
  | nil=>exact .nil
  | cons x l ih=>exact .cons (.bl x) ih
 have lay:∀l:List Bool,PyData.canLay0 (.list (l.map PyData.bool))=true:=fun l=>by
  have:PyData.canLayAll0 (l.map PyData.bool)=true:=by
   induction l with
   | nil=>rfl
   | cons x l ih=>simp [PyData.canLayAll0,PyData.canLay0,ih]
  simp [PyData.canLay0,this]
 have dep:∀l:List Bool,PyData.depth (.list (l.map PyData.bool))<=64:=fun l=>by
  have:PyData.depthAll (l.map PyData.bool)=0:=by
   induction l with
   | nil=>rfl
   | cons x l ih=>simp [PyData.depthAll,PyData.depth,ih]
  simp [PyData.depth,this]
 have ek:(fun j:Nat=>decide ((j:Int)=(k:Int)))=fun j:Nat=>decide (k=j):=by
  funext j
  exact decide_eq_decide.mpr ⟨fun z=>by omega,fun z=>by omega⟩
 have k1':H1 D=some (.lst (((List.range 10).map fun j:Nat=>decide (k=j)).map V.bl)):=by
  rw [k1,← ek,List.map_map];rfl
 have g4':H1 D4=some (.lst (((List.range 10).map fun j:Nat=>decide (k=j)).map V.bl)):=k2 _ _ g4
 refine⟨_,DV.lst (SqL.of g4') (dvb H1 _),_,DV.lst (SqL.of k1') (dvb H1 _),lay _,lay _,dep _,?_⟩
 have ev:∀l:List Bool,PyData.eqv (.list (l.map PyData.bool)) (.list (l.map PyData.bool))=true:=fun l=>by simp [PyData.eqv,eqvAll_bls]
 rw [ev,if_neg (by decide)]
 have wf:=w4.trans k2
 rcases kv with ⟨rfl,rfl⟩ | ⟨hk,kv⟩
 ·rw [if_pos (by decide),if_pos rfl];exact q _ wf
 ·rw [if_neg (by omega)];exact⟨_,rfl,_,kv _ wf,q _ wf⟩
def spTaken {K:W.Frag} {mg:Str->Option Value} (T:Tx K mg):Sp:=fun vs H Q _=>∃(R Vp:Addr) (as bs:List Addr) (ps:List (List Int)) (fs:List (Int×Int)) (m:Nat),vs=[.ref R,.ref Vp]∧H R=some (.lst (as.map V.ref))∧LH H as ps∧H Vp=some (.lst (bs.map V.ref))∧TH H bs fs∧fs.length<=400∧Cr ps fs m∧
 ∀H',Same H H'->Q (.bl true) H'
theorem ok__law_taken {P:Program} {w:World} {K:W.Frag} {mg:Str->Option Value} {base:Heap} (T:Tx K mg):FnOk P w K mg base CX0 10 T.a__law_taken T.fd__law_taken ["_law_rule_here","_law_values_here"] (spTaken T):=by
 refine T.F__law_taken.ok sc__law_taken (fun vs H Q E h=>?_) (fun cdv A outer s H vs Q E hr h=>?_)
 ·obtain⟨R,Vp,as,bs,ps,fs,m,rfl,_⟩:=h
  rfl
 obtain⟨R,Vp,as,bs,ps,fs,m,rfl,hR,lh,hV,th,l4,C,q⟩:=h
 refine⟨_,((pss_cons (ps_set (i:=2) sc__law_taken.nd rfl (Or.inr rfl) (pe_make T.mk_Row (FnOk.mono (ok_Row___init__ T) (by decide)) hr rfl T.mc_Row T.b_Row___init__ .nil passF (pa_cons (pv 0) (pa_cons (pv 1) pa_nil))))
  (pss_one (ps_ret (pe_cmpR (op_eqD hr.units) (pe_lcomp rfl (blkok rfl (sub_cons rfl sub_nil) (fv_cons 2 "_law_row" (by decide) rfl (Or.inl rfl) (Or.inl rfl) ⟨_,rfl⟩ fv_nil)) (pi_range1 rfl T.z_range (pa_cons (pe_callB call_len_seq rfl T.z_len bt_len (pa_cons (pv 1) pa_nil)) pa_nil)) (fun _ _ _ _=>(pe_meth (pv 1) T.cl_Row T.me_Row_at (FnOk.mono (ok_Row_at T) (by decide)) hr T.b_Row_at .nil passF (pa_cons (pv 0) pa_nil)))) (pv 1) (nomark _)))))),?_⟩
 dsimp only [a_seq]
 k_typeOf
 intro x dx nx nd ne
 have sm:=same_make (C:=T.c_Row) nx nd ne
 have S:Sml ps fs:=⟨C.l6,by omega,C.b,C.g⟩
 have v:Vd ps fs 10 0:=.inr (.inr ⟨m,C.I,⟨C.m60,C.c1,C.c2⟩,.inr ⟨C.need,.inr ⟨rfl,C.kp⟩⟩⟩)
 refine⟨x,dx,R,Vp,as,bs,ps,fs,10,0,rfl,upd_same,SqL.of (sm _ _ hR),(lh.same sm).ll,SqL.of (sm _ _ hV),th.same sm,S,v,fun _ _=>⟨fun z=>absurd z (by decide),fun z=>absurd z (by decide),fun z=>absurd z (by decide),fun z=>absurd z (by decide)⟩,fun _ R9 L9 as9 H1 kp9 nR9 nL9 nRL9 nas9 nRa9 nin9 _ hx9 hR9 hL9 hK9=>⟨rfl,?_⟩⟩
 obtain⟨s1,row9,nR9',nL9',nas9'⟩:=row_made nx nd ne kp9 nR9 nL9 nas9 nRL9 nin9 hx9 hR9 hL9 hK9 th (by omega) C
 clear sm kp9 nR9 nL9 nas9 hx9 hR9 hL9 hK9
 refine⟨_,.inl (SqL.of (s1 _ _ hV)),?_⟩
 rw [List.length_map,th.len,Int.toNat_natCast]
 refine⟨by omega,by omega,fun D2 nD2=>?_⟩
 obtain⟨Pc,hPc⟩:∃Pc:Nat->Hp->Prop,∀j Hx,Pc j Hx↔∃(bs2 cs2:List Addr),Hx D2=some (.lst (bs2.map V.ref))∧TH Hx bs2 (fs.take j)∧RowAt T.c_Row Hx x dx R9 L9 as9 cs2 ps fs m 0∧SameX [L9] H1 Hx:=⟨_,fun _ _=>Iff.rfl⟩
 have uD:=same_upd nD2 (.lst [])
 have nDL:D2≠L9:=fun z=>by rw [z,row9.hK] at nD2;cases nD2
 have nDR:R9≠D2:=fun z=>by rw [← z,row9.hR] at nD2;cases nD2
 have nDa:D2∉as9:=row9.hL.notin nD2
 refine cl_range Pc ((hPc _ _).mpr ⟨[],bs,upd_same,TH.nil _,row9.same uD,same_x uD⟩) ?_ ?_
 ·intro j Hx hj hc
  obtain⟨bs2,cs2,d1,d2,d3,d5⟩:=(hPc _ _).mp hc
  have e0:(0:Int)+(j:Int)=(j:Int):=Int.zero_add _
  (iterate 3 (k_units;(try simp only [bst,e0,Option.getD_some]));k_units)
  refine⟨dx,_,d3.hx,rfl,x,dx,R9,L9,(j:Int),as9,cs2,ps,fs,m,0,rfl,d3.hx,d3.hR,d3.hL,d3.nRL,d3.nin,d3.hK,d3.hT,d3.l4,d3.c,.inr ⟨j,rfl,by omega,fun i hi=>?_,fun r cs3 k3 f H' kk km kp eL th' hf hcs er=>?_⟩⟩
  ·obtain rfl:i=0:=by omega
   exact C.g
  obtain rfl:k3=0:=by omega
  have hfj:fs[j]?=some f:=hf
  have sL:SameX [L9] Hx H':=fun b o hb e=>kp b o (fun z=>hb (by simp [z])) e
  have lL:Lsts [L9] Hx:=fun a ha=>by rw [List.mem_singleton.mp ha];exact⟨_,d3.hK⟩
  have eD':=kp _ _ nDL d1
  have lD:Lsts [D2] H':=fun a ha=>by rw [List.mem_singleton.mp ha];exact⟨_,eD'⟩
  have sD:SameX [D2] H' (upd H' D2 (.lst (bs2.map V.ref++[V.ref r]))):=fun b o hb e=>by rw [upd_ne (fun z=>hb (by simp [z]))];exact e
  have r3:=d3.on sL lL (fun z=>List.mem_singleton.mp z) (fun b _ z=>List.mem_singleton.mp z) eL th'
  have lb2:bs2.length<=400:=by rw [d2.len,List.length_take];omega
  have et:fs.take (j+1)=fs.take j++[f]:=by
   rw [← List.take_append_getElem hj,(List.getElem?_eq_some_iff.mp hfj).2]
  refine⟨_,eD',by rw [List.length_map];exact small1000 (by omega),(hPc _ _).mpr ⟨bs2++[r],cs3,by rw [upd_same];simp,?_,r3.keep sD lD (fun z=>nDR (List.mem_singleton.mp z)) (fun b hb z=>nDa (by rw [← List.mem_singleton.mp z];exact hb)) (fun z=>nDL (List.mem_singleton.mp z).symm),fun b o hb e=>?_⟩⟩
  ·rw [et]
   exact TH.upd (TH.snoc (d2.kept sL lL) er) eD'
  ·rw [upd_ne (fun z=>by rw [z,nD2] at e;cases e)]
   exact (d5.trans sL) b o hb e
 intro H2 hc
 obtain⟨bs2,cs2,d1,d2,d3,d5⟩:=(hPc _ _).mp hc
 rw [List.take_length] at d2
 have sF:Same H H2:=fun b o e=>d5 b o (fun z=>by rw [List.mem_singleton.mp z,nL9'] at e;cases e) (s1 b o e)
 have layT:PyData.canLay0 (.list (fs.map dT))=true:=by simp [PyData.canLay0,layAll_tl]
 have depT:PyData.depth (.list (fs.map dT))<=64:=by have:=depAll_tl fs;simp [PyData.depth];omega
 have eqT:PyData.eqv (.list (fs.map dT)) (.list (fs.map dT))=true:=by simp [PyData.eqv,eqvAll_tl]
 refine⟨.list (fs.map dT),.lst (SqL.of d1) (dvs_tl _ _ d2.tl),.list (fs.map dT),.lst (SqL.of (sF _ _ hV)) (dvs_tl _ _ (th.same sF).tl),layT,layT,depT,?_⟩
 rw [eqT]
 exact q _ sF
structure InvG (a c e:Nat) (vs:List (Int×Int)):Prop where
 f:∀f∈vs,Frc f∧f.1.natAbs<=2 ^ (a+500 * vs.length) * f.2.natAbs
 E:∃E:Int,1<=E∧Bd (c+e * vs.length) E∧∀f∈vs,f.2∣E
theorem InvG.snoc {a c e:Nat} {vs:List (Int×Int)} {z:Int×Int} {d:Int} (h:InvG a c e vs) (hz:Frc z) (hb:z.1.natAbs<=2 ^ (a+500 * (vs.length+1)) * z.2.natAbs) (d1:1<=d) (hd:Bd e d) (he:∀E:Int,(∀f∈vs,f.2∣E)->z.2∣E * d):InvG a c e (vs++[z]):=by
 obtain⟨E,E1,Eb,Ed⟩:=h.E
 refine⟨fun f hf=>?_,E * d,?_,?_,fun f hf=>?_⟩
 ·rw [List.length_append,List.length_cons,List.length_nil]
  rcases List.mem_append.mp hf with hf | hf
  ·have:=h.f f hf
   exact⟨this.1,Nat.le_trans this.2 (Nat.mul_le_mul_right _ (pow_up (by omega)))⟩
  ·rw [List.mem_singleton.mp hf];exact⟨hz,hb⟩
 ·have:=Int.mul_le_mul E1 d1 (by omega) (by omega);omega
 ·rw [List.length_append,List.length_cons,List.length_nil,Nat.mul_add]
  exact (Eb.mul hd).mono (by omega)
 ·rcases List.mem_append.mp hf with hf | hf
  ·exact Int.dvd_trans (Ed f hf) (Int.dvd_mul_right _ _)
  ·rw [List.mem_singleton.mp hf];exact he E Ed
theorem InvG.next {a c e:Nat} {ps:List (List Int)} {vs:List (Int×Int)} {n:Nat} (h:InvG a c e vs) (h0:ps≠[]) (hn:n+ps.length=vs.length+1) (l5:ps.length<=9) (hp:val (n:Int) (ps.getLastD [])≠0) (hv:∀p∈ps,(val (n:Int) p).natAbs<=2 ^ 490) (he:Bd e (val (n:Int) (ps.getLastD []))):InvG a c e (vs++[nextF ps vs]):=by
 have v1:∀f∈vs,1<=f.2:=fun f hf=>(h.f f hf).1.1
 obtain⟨fz,kz⟩:=next_keeps h0 hn v1 hp
 have lp:=List.length_pos_iff.mpr h0
 have M1:=lcm_pos (vs.drop n) fun f hf=>v1 f (List.mem_of_mem_drop hf)
 have eq:=(kp_snoc h0 hn v1 fz.1).mp kz
 have eqE:∀E:Int,1<=E->(∀f∈vs,f.2∣E)->(nextF ps vs).1 * (E * val (n:Int) (ps.getLastD []))=-(Wm E (ws ps vs n)) * (nextF ps vs).2:=fun E E1 hE=>by
  have t:=wm_two (M:=lcmL (vs.drop n)) (M':=E) (gs:=ws ps vs n) (fun g hg=>by have h2:=(List.of_mem_zip hg).2;exact⟨v1 _ (List.mem_of_mem_drop h2),lcm_dvd _ _ h2⟩) (fun g hg=>by have h2:=(List.of_mem_zip hg).2;exact⟨v1 _ (List.mem_of_mem_drop h2),hE _ (List.mem_of_mem_drop h2)⟩)
  generalize nextF ps vs=z at eq fz
  generalize Wm (lcmL (vs.drop n)) (ws ps vs n)=W at eq t
  generalize Wm E (ws ps vs n)=W' at t
  generalize lcmL (vs.drop n)=M at eq t M1
  generalize val (n:Int) (ps.getLastD [])=v at eq
  have:M * (z.1 * (E * v))=M * (-W' * z.2):=by
   have a1:M * (z.1 * (E * v))=z.1 * (M * v) * E:=by grind
   have a2:M * (-W' * z.2)=-(W' * M) * z.2:=by grind
   rw [a1,a2,eq,← t];grind
  exact Int.eq_of_mul_eq_mul_left (by omega) this
 refine h.snoc (d:=((val (n:Int) (ps.getLastD [])).natAbs:Int)) fz ?_ (by omega) (by show (((val (n:Int) (ps.getLastD [])).natAbs:Int)).natAbs < 2 ^ e;rw [Int.natAbs_natCast];exact he) fun E hE=>?_
 ·obtain⟨E,E1,_,hE⟩:=h.E
  have q:=eqE E E1 hE
  have wl:=wm_le (V:=2 ^ 490) (B:=2 ^ (a+500 * vs.length)) E1 (ws ps vs n) fun g hg=>by
   obtain⟨h1,h2⟩:=List.of_mem_zip hg
   obtain⟨p,hp',e1⟩:=List.mem_map.mp h1
   have hm:=List.mem_of_mem_drop h2
   exact⟨by rw [← e1];exact hv p hp',v1 _ hm,hE _ hm,(h.f _ hm).2⟩
  have lw:(ws ps vs n).length<=8:=by unfold ws;rw [List.length_zip,List.length_map,List.length_drop];omega
  have q2:=congrArg Int.natAbs q
  rw [Int.natAbs_mul,Int.natAbs_mul,Int.natAbs_mul,Int.natAbs_neg] at q2
  generalize nextF ps vs=z at q2 fz
  generalize (Wm E (ws ps vs n)).natAbs=W at q2 wl
  have vp:1<=(val (n:Int) (ps.getLastD [])).natAbs:=by omega
  generalize (val (n:Int) (ps.getLastD [])).natAbs=v at q2 vp
  have Ep:1<=E.natAbs:=by omega
  generalize E.natAbs=En at q2 wl Ep
  generalize (ws ps vs n).length=k at wl lw
  have a1:z.1.natAbs * En<=W * z.2.natAbs:=by
   rw [← q2]
   refine Nat.mul_le_mul_left _ ?_
   exact Nat.le_mul_of_pos_right _ vp
  have a2:W<=2 ^ 3 * (2 ^ 490 * (2 ^ (a+500 * vs.length) * En)):=Nat.le_trans wl (Nat.mul_le_mul_right _ lw)
  have a3:z.1.natAbs * En<=(2 ^ (a+500 * (vs.length+1)) * z.2.natAbs) * En:=by
   refine Nat.le_trans a1 (Nat.le_trans (Nat.mul_le_mul_right _ a2) ?_)
   have e5:2 ^ 3 * (2 ^ 490 * (2 ^ (a+500 * vs.length) * En)) * z.2.natAbs=2 ^ (3+490+(a+500 * vs.length)) * z.2.natAbs * En:=by
    rw [Nat.pow_add 2 (3+490) (a+500 * vs.length),Nat.pow_add 2 3 490]
    generalize 2 ^ (a+500 * vs.length)=X
    generalize (2:Nat) ^ 490=Y
    generalize (2:Nat) ^ 3=Z
    simp only [Nat.mul_assoc,Nat.mul_comm,Nat.mul_left_comm]
   rw [e5]
   exact Nat.mul_le_mul_right _ (Nat.mul_le_mul_right _ (pow_up (by omega)))
  exact Nat.le_of_mul_le_mul_right a3 Ep
 ·by_cases E0:E=0
  ·rw [E0,Int.zero_mul];exact Int.dvd_zero _
  ·have q:=eqE (E.natAbs:Int) (by omega) fun f hf=>Int.dvd_natAbs.mpr (hE f hf)
   have d1:(nextF ps vs).2∣(E.natAbs:Int) * val (n:Int) (ps.getLastD []):=cop_dvd (b:=(nextF ps vs).1) ⟨-(Wm (E.natAbs:Int) (ws ps vs n)),by rw [q,Int.mul_comm]⟩ (by rw [Int.gcd_comm];exact fz.2)
   have d2:=Int.natAbs_dvd_natAbs.mpr d1
   rw [Int.natAbs_mul,Int.natAbs_natCast] at d2
   refine Int.natAbs_dvd_natAbs.mp ?_
   rw [Int.natAbs_mul,Int.natAbs_natCast];exact d2
theorem spo_frc {f:Int×Int} {i:Nat} (h:Frc f):Frc (f.1+i * f.2,f.2):=by
 obtain⟨h1,h2⟩:=h
 refine⟨h1,?_⟩
 have:Int.gcd (f.1+i * f.2) f.2=Int.gcd f.1 f.2:=by
  rw [Int.gcd_add_mul_right_left]
 exact this.trans h2
theorem spo_sz {e:Nat} {fs gs:List (Int×Int)} (iv:InvV e fs) (hl:fs.length<=70) (he:1+e * fs.length<=800) (hg:∀g∈gs,Spo 2 fs g):(∀g∈gs,Frc g∧g.1.natAbs<=2 ^ 7000 * g.2.natAbs)∧∃E:Int,1<=E∧Bd 800 E∧∀f∈gs,f.2∣E:=by
 obtain⟨E,E1,Eb,Ed⟩:=iv.E
 refine⟨fun g h=>?_,E,E1,Eb.mono he,fun g h=>?_⟩
 ·obtain⟨f,hf,i,hi,rfl⟩:=hg g h
  obtain⟨F,b⟩:=iv.f f hf
  refine⟨spo_frc F,?_⟩
  have h1:(f.1+i * f.2).natAbs<=f.1.natAbs+(i * f.2).natAbs:=Int.natAbs_add_le _ _
  have h2:(i * f.2:Int).natAbs<=2 * f.2.natAbs:=by
   rw [Int.natAbs_mul,Int.natAbs_natCast];exact Nat.mul_le_mul_right _ hi
  have h3:(2:Nat) ^ (300+90 * fs.length)<=2 ^ 6900:=pow_up (by omega)
  have h4:=Nat.mul_le_mul_right f.2.natAbs h3
  have h5:(2:Nat) ^ 6900+2<=2 ^ 7000:=by
   have:(2:Nat) ^ 6900 * 2<=2 ^ 7000:=by rw [← Nat.pow_succ];exact pow_up (by decide)
   have:(2:Nat) ^ 1<=2 ^ 6900:=pow_up (by decide)
   omega
  have h6:=Nat.mul_le_mul_right f.2.natAbs h5
  rw [Nat.add_mul] at h6
  show (f.1+i * f.2).natAbs<=2 ^ 7000 * f.2.natAbs
  omega
 ·obtain⟨f,hf,i,hi,rfl⟩:=hg g h
  exact Ed f hf
theorem sz_good {a b:Nat} {gs:List (Int×Int)} (ha:a+b<=19000) (hb:b<=2900) (h:(∀g∈gs,Frc g∧g.1.natAbs<=2 ^ a * g.2.natAbs)∧∃E:Int,1<=E∧Bd b E∧∀f∈gs,f.2∣E):Good gs:=by
 obtain⟨h1,E,E1,Eb,Ed⟩:=h
 refine⟨fun g hg=>⟨(h1 g hg).1,?_⟩,E,E1,Eb.mono hb,Ed⟩
 have h2:=(h1 g hg).2
 have h3:g.2.natAbs<=E.natAbs:=Nat.le_of_dvd (by omega) (Int.natAbs_dvd_natAbs.mpr (Ed g hg))
 have h4:E.natAbs < 2 ^ b:=Eb
 have h5:=Nat.mul_le_mul_left (2 ^ a) (show g.2.natAbs<=2 ^ b by omega)
 rw [← Nat.pow_add] at h5
 have h6:(2:Nat) ^ (a+b) < 2 ^ 20000:=Nat.pow_lt_pow_right (by decide) (by omega)
 show g.1.natAbs < 2 ^ 20000
 omega
theorem carry_good {ps:List (List Int)} {gs:List (Int×Int)} {m:Nat} (C:Cr ps gs m) (h:(∀g∈gs,Frc g∧g.1.natAbs<=2 ^ 7000 * g.2.natAbs)∧∃E:Int,1<=E∧Bd 800 E∧∀f∈gs,f.2∣E) (i:Nat) (hi:gs.length+i<=3):Good (carryF ps gs i):=by
 have key:∀i,gs.length+i<=3->InvG 7000 800 400 (carryF ps gs i):=fun i=>by
  induction i with
  | zero=>
   intro _
   obtain⟨h1,E,E1,Eb,Ed⟩:=h
   exact⟨fun f hf=>⟨(h1 f hf).1,Nat.le_trans (h1 f hf).2 (Nat.mul_le_mul_right _ (pow_up (by omega)))⟩,E,E1,Eb.mono (by omega),Ed⟩
  | succ i ih=>
   intro hi
   have I:=ih (by omega)
   have lc:=carry_len ps gs i
   have lp:=List.length_pos_iff.mpr C.I.1
   have nd:=C.need
   have l6:=C.l6
   have bn:Bd 2 ((gs.length+i+1 - ps.length:Nat):Int):=Bd.of_lt (m:=4) (by omega) (by decide)
   have bv:∀p∈ps,Bd 400 (val ((gs.length+i+1 - ps.length:Nat):Int) p):=fun p hp=>(val_bd bn p (C.b p hp).2).mono (by have:=(C.b p hp).1;omega)
   have hlast:ps.getLast?=some (ps.getLastD []):=by rw [List.getLastD_eq_getLast?,List.getLast?_eq_some_getLast C.I.1];rfl
   refine I.next (n:=gs.length+i+1 - ps.length) C.I.1 (by rw [lc];omega) (by omega) (val_clr C.c1 (by omega)) (fun p hp=>Nat.le_trans (Nat.le_of_lt (bv p hp)) (pow_up (by decide))) (bv _ (List.mem_of_getLast? hlast))
 have I:=key i hi
 have lc:=carry_len ps gs i
 refine sz_good (a:=8500) (b:=2000) (by decide) (by decide) ⟨fun f hf=>⟨(I.f f hf).1,Nat.le_trans (I.f f hf).2 (Nat.mul_le_mul_right _ (pow_up (by rw [lc];omega)))⟩,?_⟩
 obtain⟨E,E1,Eb,Ed⟩:=I.E
 exact⟨E,E1,Eb.mono (by rw [lc];omega),Ed⟩
theorem ext_in {l b:Addr} {xs zs:List V} {H:Hp} {Q:VK} (h1:H l=some (.lst xs)) (h2:H b=some (.lst zs)) (h3:xs.length+zs.length<=sizeLine) (q:Q .non (upd H l (.lst (xs++zs)))):rExtend (.ref l) [.ref b] H Q:=⟨l,b,xs,zs,rfl,rfl,h1,h2,h3,q⟩
def spLaw (K:W.Frag):Sp:=fun vs H Q _=>∃(a:Addr) (ns:List Int),vs=[.ref a]∧SqL K H a (ns.map V.int)∧ns.length<=63∧∀H',Q (.bl true) H'
theorem ok_law {P:Program} {w:World} {K:W.Frag} {mg:Str->Option Value} {base:Heap} (T:Tx K mg):FnOk P w K mg base CX0 11 T.a_law T.fd_law ["_law_script"] (spLaw K):=by
 refine T.F_law.ok sc_law (fun vs H Q E h=>?_) (fun cdv A outer s H vs Q E hr h=>?_)
 ·obtain⟨a,ns,rfl,_⟩:=h
  rfl
 obtain⟨a,ns,rfl,hA,hl,q⟩:=h
 refine⟨_,((pss_cons (ps_set (i:=1) sc_law.nd rfl (Or.inl rfl) (pe_call (FnOk.mono (ok__law_parts T) (by decide)) hr rfl T.m__law_parts T.F__law_parts.kp T.b__law_parts .nil pass0 (pa_cons (pv 0) pa_nil)))
  (pss_cons (ps_set (i:=2) sc_law.nd rfl (Or.inl rfl) (pe_call (FnOk.mono (ok__law_roots T) (by decide)) hr rfl T.m__law_roots T.F__law_roots.kp T.b__law_roots .nil pass0 (pa_cons (pv 0) pa_nil)))
  (pss_cons (ps_set (i:=3) sc_law.nd rfl (Or.inl rfl) (pe_lst (pa_cons (pe_call (FnOk.mono (ok__law_rule T) (by decide)) hr rfl T.m__law_rule T.F__law_rule.kp T.b__law_rule .nil pass0 (pa_cons (pv 1) (pa_cons (pv 2) pa_nil))) (pa_cons (pe_lst pa_nil) pa_nil))))
  (pss_cons (ps_set (i:=4) sc_law.nd rfl (Or.inl rfl) (pe_call (FnOk.mono (ok__law_need T) (by decide)) hr rfl T.m__law_need T.F__law_need.kp T.b__law_need .nil pass0 (pa_cons (pv 1) (pa_cons (pv 2) pa_nil))))
  (pss_cons (ps_asg (pe_call (FnOk.mono (ok__law_values T) (by decide)) hr rfl T.m__law_values T.F__law_values.kp T.b__law_values .nil pass0 (pa_cons (pv 1) (pa_cons (pv 2) (pa_cons (pe_slice sl_list (pv 0) (po_some pe_int) (po_some pe_int)) (pa_cons (pe_op op_add (pv 4) (pe_op op_mod (pe_call (FnOk.mono (ok__law_cell_at T) (by decide)) hr rfl T.m__law_cell_at T.F__law_cell_at.kp T.b__law_cell_at .nil pass0 (pa_cons (pv 0) (pa_cons pe_int pa_nil))) pe_int)) pa_nil))))) (pg_sub (pv 3) pe_int set_list))
  (pss_cons (ps_set (i:=5) sc_law.nd rfl (Or.inl rfl) (pe_lst (pa_cons (pe_call (FnOk.mono (ok__law_spoiled_rule T) (by decide)) hr rfl T.m__law_spoiled_rule T.F__law_spoiled_rule.kp T.b__law_spoiled_rule .nil pass0 (pa_cons (pv 0) (pa_cons (pe_ix ix_list (pv 3) pe_int (fun _ _=>rfl)) pa_nil))) (pa_cons (pe_call (FnOk.mono (ok__law_spoiled_first T) (by decide)) hr rfl T.m__law_spoiled_first T.F__law_spoiled_first.kp T.b__law_spoiled_first .nil pass0 (pa_cons (pv 0) (pa_cons (pe_ix ix_list (pv 3) pe_int (fun _ _=>rfl)) pa_nil))) pa_nil))))
  (pss_cons (ps_set (i:=6) sc_law.nd rfl (Or.inl rfl) (pe_lst (pa_cons (pe_lcomp rfl (blkok rfl sub_nil fv_nil) (pi_list (pe_ix ix_list (pv 5) pe_int (fun _ _=>rfl))) (fun _ _ _ _=>(pe_callTy (call_list_ofK (K:=K) rfl) rfl T.z_list bt_list (pa_cons (pv 0) pa_nil)))) (pa_cons (pe_callTy call_list_of rfl T.z_list bt_list (pa_cons (pe_ix ix_list (pv 5) pe_int (fun _ _=>rfl)) pa_nil)) pa_nil))))
  (pss_cons (ps_asg (pe_call (FnOk.mono (ok__law_due T) (by decide)) hr rfl T.m__law_due T.F__law_due.kp T.b__law_due .nil pass0 (pa_cons (pe_ix ix_list (pv 5) pe_int (fun _ _=>rfl)) (pa_cons (pe_ix ix_list (pv 5) pe_int (fun _ _=>rfl)) (pa_cons (pe_cmpR op_eq (pe_op op_mod (pe_call (FnOk.mono (ok__law_cell_at T) (by decide)) hr rfl T.m__law_cell_at T.F__law_cell_at.kp T.b__law_cell_at .nil pass0 (pa_cons (pv 0) (pa_cons pe_int pa_nil))) pe_int) pe_int (nomark _)) (pa_cons (pv 4) pa_nil))))) (pg_tup rfl (pgs_cons (pg_name (i:=7) sc_law.nd rfl (Or.inl rfl)) (pgs_cons (pg_name (i:=8) sc_law.nd rfl (Or.inl rfl)) pgs_nil))))
  (pss_cons (ps_if (pt_not (pt_val (pe_call (FnOk.mono (ok__law_is T) (by decide)) hr rfl T.m__law_is T.F__law_is.kp T.b__law_is .nil pass0 (pa_cons (pe_call (FnOk.mono (ok__law_caught T) (by decide)) hr rfl T.m__law_caught T.F__law_caught.kp T.b__law_caught .nil pass0 (pa_cons pe_bl (pa_cons (pe_ix ix_list (pv 6) pe_int (fun _ _=>rfl)) (pa_cons (pe_ix ix_list (pv 6) pe_int (fun _ _=>rfl)) pa_nil)))) (pa_cons (pv 7) pa_nil))))) (pss_one (ps_ret pe_bl)) pss_nil)
  (pss_cons (ps_if (pt_not (pt_val (pe_call (FnOk.mono (ok__law_is T) (by decide)) hr rfl T.m__law_is T.F__law_is.kp T.b__law_is .nil pass0 (pa_cons (pe_call (FnOk.mono (ok__law_caught T) (by decide)) hr rfl T.m__law_caught T.F__law_caught.kp T.b__law_caught .nil pass0 (pa_cons pe_bl (pa_cons (pe_ix ix_list (pv 6) pe_int (fun _ _=>rfl)) (pa_cons (pe_ix ix_list (pv 6) pe_int (fun _ _=>rfl)) pa_nil)))) (pa_cons (pv 7) pa_nil))))) (pss_one (ps_ret pe_bl)) pss_nil)
  (pss_mid (ps_if (pt_cmpR op_eq (pv 7) pe_int (nomark _)) (pss_cons (ps_set (i:=9) sc_law.nd rfl (Or.inl rfl) (pe_call (FnOk.mono (ok__law_place T) (by decide)) hr rfl T.m__law_place T.F__law_place.kp T.b__law_place .nil pass0 (pa_cons (pe_ix ix_list (pv 6) pe_int (fun _ _=>rfl)) (pa_cons (pe_ix ix_list (pv 6) pe_int (fun _ _=>rfl)) pa_nil))))
  (pss_one (ps_if (PW.pt (pw_or (pt_cmpR op_ne (pv 9) (pv 8) (nomark _)) (pw_or1 (pt_val (pe_callB call_isinst rfl T.z_isinstance bt_isinstance (pa_cons (pv 9) (pa_cons (pe_bltn (v:=.ty "bool") rfl T.z_bool bt_bool rfl) pa_nil))))))) (pss_one (ps_ret pe_bl)) pss_nil))) pss_nil)
  (pss_mid (ps_if (PW.pt (pw_or (pt_cmpR (op_neD hr.units) (pv 6) (pv 5) (nomark _)) (pw_or1 (PW.pt (pw_and (pt_cmpR op_eq (pv 7) pe_int (nomark _)) (pw_and1 (pt_not (pt_val (pe_call (FnOk.mono (ok__law_taken T) (by decide)) hr rfl T.m__law_taken T.F__law_taken.kp T.b__law_taken .nil pass0 (pa_cons (pe_ix ix_list (pv 6) pe_int (fun _ _=>rfl)) (pa_cons (pe_ix ix_list (pv 6) pe_int (fun _ _=>rfl)) pa_nil))))))))))) (pss_one (ps_ret pe_bl)) pss_nil)
  (pss_cons (ps_expr (pe_bm0 PySem.F.plainAttrs_list PySem.F.slot_list_clear PySem.F.type_list_clear mt_clear (pe_ix ix_list (pv 6) pe_int (fun _ _=>rfl))))
  (pss_cons (ps_expr (pe_bm PySem.F.plainAttrs_list PySem.F.slot_list_extend PySem.F.type_list_extend mt_extend (pe_ix ix_list (pv 6) pe_int (fun _ _=>rfl)) (pa_cons (pe_lcomp rfl (blkok rfl sub_nil fv_nil) (pi_list (pe_ix ix_list (pv 3) pe_int (fun _ _=>rfl))) (fun _ _ _ _=>(pe_callTy (call_list_ofK (K:=K) rfl) rfl T.z_list bt_list (pa_cons (pv 0) pa_nil)))) pa_nil)))
  (pss_cons (ps_expr (pe_bm0 PySem.F.plainAttrs_list PySem.F.slot_list_clear PySem.F.type_list_clear mt_clear (pe_ix ix_list (pv 6) pe_int (fun _ _=>rfl))))
  (pss_cons (ps_expr (pe_bm PySem.F.plainAttrs_list PySem.F.slot_list_extend PySem.F.type_list_extend mt_extend (pe_ix ix_list (pv 6) pe_int (fun _ _=>rfl)) (pa_cons (pe_ix ix_list (pv 3) pe_int (fun _ _=>rfl)) pa_nil)))
  (pss_one (ps_ret (pe_and (pe_call (FnOk.mono (ok__law_taken T) (by decide)) hr rfl T.m__law_taken T.F__law_taken.kp T.b__law_taken .nil pass0 (pa_cons (pe_ix ix_list (pv 6) pe_int (fun _ _=>rfl)) (pa_cons (pe_ix ix_list (pv 6) pe_int (fun _ _=>rfl)) pa_nil))) (pe_one (pe_cmpR (op_eqD hr.units) (pv 6) (pv 3) (nomark _))))))))))))))))))))))),?_⟩
 dsimp only [a_seq]
 k_typeOf
 refine⟨a,ns,rfl,hA,fun ps hP R as H1 s1 eR lh1=>?_⟩
 dsimp only [a_seq]
 k_typeOf
 refine⟨a,ns,rfl,s1.seq hA,fun rs lr br S H2 s2 nS eS=>?_⟩
 dsimp only [a_seq]
 k_typeOf
 have s12:=s1.trans s2
 have eR2:=s2 _ _ eR
 have lh2:=lh1.same s2
 obtain⟨far,hfar⟩:∃far,far13 ns=far:=⟨_,rfl⟩
 rw [hfar] at hP br
 have br0:∀r∈rs,0<=r∧r < 60:=fun r hr'=>by have:=br r hr';split at this <;> omega
 have br6:∀r∈rs,r.natAbs < 64:=fun r hr'=>by have:=br0 r hr';omega
 refine⟨R,S,as,ps,rs,far,rfl,eR2,lh2,hP,SqL.of eS,lr,br6,fun Ru ru H3a s3a eRu0 lhu0=>⟨by decide,fun p0 np0=>⟨by decide,fun Gd nGd=>?_⟩⟩⟩
 have t1:=same_upd np0 (.lst [])
 have t2:=same_upd nGd (.lst [V.ref Ru,V.ref p0])
 have nGd3:H3a Gd=none:=t1.free nGd
 have s3:=s3a.trans (t1.trans t2)
 have s3b:=t1.trans t2
 have eRu:=s3b _ _ eRu0
 have lhu:=lhu0.same s3b
 have eGd3:upd (upd H3a p0 (.lst [])) Gd (.lst [V.ref Ru,V.ref p0]) Gd=some (.lst [V.ref Ru,V.ref p0]):=upd_same
 generalize upd (upd H3a p0 (.lst [])) Gd (.lst [V.ref Ru,V.ref p0])=H3 at s3 s3b eRu lhu eGd3 ⊢
 dsimp only [a_seq]
 k_typeOf
 have eR3:=s3 _ _ eR2
 have lh3:=lh2.same s3
 have eS3:=s3 _ _ eS
 have s13:=s12.trans s3
 have r0:∀r∈rs,0<=r:=fun r hr'=>(br0 r hr').1
 refine⟨R,S,_,rs,rfl,SqL.of eR3,SqL.of eS3,lr,r0,fun H4 s4=>?_⟩
 rw [List.length_map,lh3.len]
 have lp:=List.length_pos_iff.mpr hP.ne
 have l5:=hP.l5
 have lmx:maxR rs<=if far=true then 60 else 6:=by
  by_cases z:rs=[]
  ·rw [z];exact Nat.zero_le _
  ·obtain⟨r,hr',e⟩:=maxR_in r0 z
   have:=br r hr'
   split at this <;> rename_i hf <;> simp only [hf] <;> simp <;> omega
 obtain⟨many,hmany,hmany2⟩:∃many:Nat,(ps.length:Int) - 1+(maxR rs:Int)=(many:Int)∧many=ps.length - 1+maxR rs:=⟨ps.length - 1+maxR rs,by omega,rfl⟩
 rw [hmany]
 have s14:=s13.trans s4
 dsimp only [a_seq]
 k_typeOf
 refine⟨_,s14.seq hA,fun C nC=>?_⟩
 rw [cutV_map]
 have lcs:((ns.drop (HT.sIx ns.length 0 (some 18))).take (HT.sIx ns.length ns.length (some 63) - HT.sIx ns.length 0 (some 18))).length<=63:=by rw [List.length_take,List.length_drop];omega
 generalize (ns.drop (HT.sIx ns.length 0 (some 18))).take (HT.sIx ns.length ns.length (some 63) - HT.sIx ns.length 0 (some 18))=cs at lcs ⊢
 have u5:=same_upd nC (.lst (cs.map V.int))
 have eC5:upd H4 C (.lst (cs.map V.int)) C=some (.lst (cs.map V.int)):=upd_same
 have s45:=s4.trans u5
 have s15:=s14.trans u5
 generalize upd H4 C (.lst (cs.map V.int))=H5 at u5 eC5 s45 s15 ⊢
 have eR5:=s45 _ _ eR3
 have lh5:=lh3.same s45
 have eS5:=s45 _ _ eS3
 have eGd5:=s45 _ _ eGd3
 refine⟨a,ns,5,rfl,s15.seq hA,_,rfl,by decide,?_⟩
 obtain⟨size,hsize,sz1,sz2⟩:∃size:Nat,(many:Int)+cell ns 5 % 4=(size:Int)∧many<=size∧size<=many+3:=⟨((many:Int)+cell ns 5 % 4).toNat,by omega,by omega,by omega⟩
 rw [hsize]
 obtain⟨e,he1,he2,he3,he4,hbe⟩:∃e:Nat,10<=e∧e<=100∧1+e * size<=2000∧1+e * size<=800∧∀n:Nat,n<=100->Bd e (val (n:Int) (ps.getLastD [])):=by
  by_cases hf:far=true
  ·rw [if_pos hf] at lmx
   exact⟨10,by decide,by decide,by omega,by omega,fun n hn=>by rw [hP.f hf];simp only [val,Int.mul_zero,Int.add_zero];exact Bd.one (by decide)⟩
  ·rw [if_neg hf] at lmx
   refine⟨60,by decide,by decide,by omega,by omega,fun n hn=>?_⟩
   have l3:=hP.t.l
   exact (val_bd (k:=30) (l:=7) (Bd.of_lt (m:=101) (by omega) (by decide)) _ hP.t.b).mono (by omega)
 have lm60:maxR rs<=60:=by split at lmx <;> omega
 refine⟨R,S,C,as,ps,rs,cs,far,e,size,rfl,SqL.of eR5,lh5.ll,hP,SqL.of eS5,eC5,lcs,by omega,he1,he2,he3,hbe,fun fs lf iv kp Vf vs H6 s6 nV eV th=>?_⟩
 obtain⟨rule,hrule⟩:∃rule,ps.map (mulR rs)=rule:=⟨_,rfl⟩
 rw [hrule] at lhu0
 have lrule:rule.length=ps.length:=by rw [← hrule,List.length_map]
 have lst:rule.getLastD []=mulR rs (ps.getLastD []):=by rw [← hrule];exact lastD_map hP.ne
 have gfs:Good fs:=iv.good (by omega) (by rw [lf];omega)
 have brule7:∀p∈rule,Nml p∧p.length<=7∧∀x∈p,Bd 100 x:=fun p hp=>by
  rw [← hrule] at hp
  obtain⟨s',hs',rfl⟩:=List.mem_map.mp hp
  have l3:=hP.l s' hs'
  have lm:=mulR_len rs s' (hP.n s' hs')
  refine⟨mulR_nml rs s' (hP.n s' hs'),by omega,fun x hx=>(mulR_bd (k:=60) rs s' (hP.n s' hs') br6 (by omega) (hP.b s' hs') x hx).mono (by omega)⟩
 have brule:∀p∈rule,p.length<=64∧∀x∈p,Bd 200 x:=fun p hp=>by
  rw [← hrule] at hp
  obtain⟨s',hs',rfl⟩:=List.mem_map.mp hp
  have l3:=hP.l s' hs'
  have lm:=mulR_len rs s' (hP.n s' hs')
  refine⟨by omega,fun x hx=>(mulR_bd (k:=60) rs s' (hP.n s' hs') br6 (by omega) (hP.b s' hs') x hx).mono (by omega)⟩
 have rne:rule≠[]:=fun z=>hP.ne (List.eq_nil_of_length_eq_zero (by rw [← lrule,z];rfl))
 have frs:∀f∈fs,Frc f:=fun f hf=>(gfs.1 f hf).1
 have kpr:∀n,n+rule.length<=fs.length->Kp rule fs n:=fun n hn=>by
  rw [← hrule]
  exact kp_mulR.mpr (kp n (by omega))
 have IR:IsRule rule:=by
  refine⟨rne,fun p hp=>?_,fun p hp=>?_⟩
  ·have:p=mulR rs (ps.getLastD []):=by rw [← lst,List.getLastD_eq_getLast?,hp];rfl
   rw [this]
   refine mulR_ne rs _ hP.t.n fun z=>?_
   have:=val_clr (n:=0) hP.t.c (by decide)
   rw [z] at this;exact this rfl
  ·rw [← hrule] at hp
   obtain⟨s',hs',rfl⟩:=List.mem_map.mp hp
   exact mulR_nml rs s' (hP.n s' hs')
 have c1:clr (maxR rs) (rule.getLastD [])=true:=by
  rw [lst]
  exact clr_yes (clr_mono (by omega) hP.t.c) fun r hr'=>by have:=maxR_le hr' (r0 r hr');omega
 have c2:∀j:Nat,j < maxR rs->clr j (rule.getLastD [])=false:=fun j hj=>by
  rw [lst]
  have z:rs≠[]:=fun z=>by rw [z] at hj;simp [maxR] at hj
  obtain⟨r,hr',er⟩:=maxR_in r0 z
  exact clr_nope hr' (by omega)
 have eGd6:=s6 _ _ eGd5
 refine⟨_,eGd6,1,rfl,?_⟩
 have s3a7:Same H3a (upd H6 Gd (.lst ([V.ref Ru,V.ref p0].set 1 (V.ref Vf)))):=(s3b.trans (s45.trans s6)).more nGd3
 have s17:Same H (upd H6 Gd (.lst ([V.ref Ru,V.ref p0].set 1 (V.ref Vf)))):=(s12.trans s3a).trans s3a7
 have eGd7:upd H6 Gd (.lst ([V.ref Ru,V.ref p0].set 1 (V.ref Vf))) Gd=some (.lst [V.ref Ru,V.ref Vf]):=upd_same
 have nVG:Vf≠Gd:=fun z=>by rw [z,eGd5] at nV;cases nV
 have eV7:upd H6 Gd (.lst ([V.ref Ru,V.ref p0].set 1 (V.ref Vf))) Vf=some (.lst (vs.map V.ref)):=by rw [upd_ne nVG];exact eV
 have th7:TH (upd H6 Gd (.lst ([V.ref Ru,V.ref p0].set 1 (V.ref Vf)))) vs fs:=TH.upd th eGd6
 have eRu7:=s3a7 _ _ eRu0
 have lhu7:=lhu0.same s3a7
 generalize upd H6 Gd (.lst ([V.ref Ru,V.ref p0].set 1 (V.ref Vf)))=H7 at s3a7 s17 eGd7 eV7 th7 eRu7 lhu7 ⊢
 clear s1 s2 s3 s4 s12 s13 s14 u5 s45 s15 eR eR2 eR3 eR5 lh1 lh2 lh3 lh5 eS eS3 eS5 eRu lhu nS nC eC5 nV s3a s3b t1 t2 nGd3 nGd np0 eGd3 eGd5 eGd6 th eV s6 eRu0 lhu0 s3a7
 dsimp only [a_seq]
 k_typeOf
 refine⟨_,SqL.of eGd7,_,rfl,a,Ru,ns,ru,rule,rfl,s17.seq hA,eRu7,lhu7,rne,by omega,brule7,fun qs lq bq hq SR sr H8 s8 eSR lsr=>?_⟩
 have s18:=s17.trans s8
 refine⟨_,SqL.of (s8 _ _ eGd7),_,rfl,a,Vf,ns,vs,fs,rfl,s18.seq hA,s8 _ _ eV7,th7.same s8,by omega,fun gs lg hg SV sv H9 s9 nSV eSV tsv=>⟨by decide,fun Sd nSd=>?_⟩⟩
 have uS:=same_upd nSd (.lst [V.ref SR,V.ref SV])
 have eSd:upd H9 Sd (.lst [V.ref SR,V.ref SV]) Sd=some (.lst [V.ref SR,V.ref SV]):=upd_same
 have s79:=s8.trans (s9.trans uS)
 have s89:=s9.trans uS
 generalize upd H9 Sd (.lst [V.ref SR,V.ref SV])=HA at uS eSd s79 s89 ⊢
 have eSRA:=s89 _ _ eSR
 have lsrA:=lsr.same s89
 have eSVA:=uS _ _ eSV
 have tsvA:=tsv.same uS
 have s1A:=s17.trans s79
 clear s8 s9 uS s89 eSR lsr eSV tsv s18
 dsimp only [a_seq]
 k_typeOf
 refine⟨_,SqL.of eSd,_,rfl,_,rfl,⟨_,SqL.of eSRA⟩,fun D1 nD1=>cl_ll nD1 (SqL.of eSRA) lsrA.ll (ds:=qs) rfl (by omega) (fun i b' p d Hx R' hp hd sx hB hR=>?_) fun F fb HB sB nF eF lhF nfb Ffb ndF=>?_⟩
 ·obtain rfl:p=d:=by rw [hp] at hd;exact Option.some.inj hd
  (iterate 3 (k_units;(try simp only [bst]));k_units)
  exact⟨_,.inl hB,fun l nl=>hR l _ (same_upd nl _) nl upd_same⟩
 refine⟨_,SqL.of (sB _ _ eSd),_,rfl,_,rfl,_,.inl (SqL.of (sB _ _ eSVA)),fun L nL=>⟨by decide,fun Hd nHd=>?_⟩⟩
 have uL:=same_upd nL (.lst (sv.map V.ref))
 have uH:=same_upd nHd (.lst [V.ref F,V.ref L])
 have sAC:=sB.trans (uL.trans uH)
 have sBC:=uL.trans uH
 have eHd:upd (upd HB L (.lst (sv.map V.ref))) Hd (.lst [V.ref F,V.ref L]) Hd=some (.lst [V.ref F,V.ref L]):=upd_same
 have eL:upd (upd HB L (.lst (sv.map V.ref))) Hd (.lst [V.ref F,V.ref L]) L=some (.lst (sv.map V.ref)):=uH _ _ upd_same
 have nLA:HA L=none:=sB.free nL
 have nHdB:HB Hd=none:=uL.free nHd
 have nHL:Hd≠L:=fun z=>by rw [z,upd_same] at nHd;cases nHd
 have nHF:Hd≠F:=fun z=>by rw [z,eF] at nHdB;cases nHdB
 have nFL:F≠L:=fun z=>by rw [← z,eF] at nL;cases nL
 have nLfb:L∉fb:=lhF.notin nL
 have nHfb:Hd∉fb:=lhF.notin nHdB
 have eFC:=sBC _ _ eF
 have lhFC:=lhF.same sBC
 generalize upd (upd HB L (.lst (sv.map V.ref))) Hd (.lst [V.ref F,V.ref L])=HC at sAC sBC eHd eL eFC lhFC ⊢
 have eSdC:=sAC _ _ eSd
 have eSRC:=sAC _ _ eSRA
 have lsrC:=lsrA.same sAC
 have eSVC:=sAC _ _ eSVA
 have tsvC:=tsvA.same sAC
 have s7C:=s79.trans sAC
 have s1C:=s1A.trans sAC
 clear sB sBC uL uH eF lhF nL nHd nHdB eSRA lsrA eSVA tsvA s1A nD1
 have szg:=spo_sz iv (by omega) (by rw [lf];exact he4) hg
 have SM:Sml qs gs:=⟨lq,by omega,bq,sz_good (a:=7000) (b:=800) (by decide) (by decide) szg⟩
 dsimp only [a_seq]
 k_typeOf
 refine⟨_,SqL.of eSdC,_,rfl,_,SqL.of eSdC,_,rfl,a,ns,43,rfl,s1C.seq hA,_,rfl,by decide,?_⟩
 refine⟨SR,SV,sr,sv,qs,gs,decide (cell ns 43 % 4=3),many,rfl,eSRC,lsrC,eSVC,tsvC,SM,fun z I j hj=>?_,fun z I=>?_,fun k n vd r HD sD er=>?_⟩
 ·have h:=hq I
  rw [if_pos (of_decide_eq_true z)] at h
  obtain⟨c,c60,rfl⟩:=h
  rw [lastD_map rne]
  exact clr_nope (List.mem_singleton.mpr rfl) (by omega)
 ·have h:=hq I
  rw [if_neg (of_decide_eq_false z)] at h
  rw [h]
  exact⟨maxR rs,⟨lm60,c1,c2⟩,by omega⟩
 refine⟨_,rfl,_,SqT.of er,rfl,_,_,rfl,_,_,rfl,rfl,?_⟩
 have hcg:k=10->∀i,gs.length+i<=3->Good (carryF qs gs i):=fun hk i hi=>by
  subst hk
  obtain⟨m,Cm⟩:=vd_cr SM vd
  exact carry_good Cm szg i hi
 dsimp only [a_seq]
 k_typeOf
 have eHdD:=sD _ _ eHd
 refine⟨_,SqL.of eHdD,_,rfl,_,SqL.of eHdD,_,rfl,true,F,L,fb,sv,qs,gs,k,n,rfl,sD _ _ eFC,lhFC.same sD,sD _ _ eL,tsvC.same sD,SM,vd,hcg,fun v1 HE sE ct=>⟨v1,k,rfl,ct,fun HG sG=>⟨true,rfl,?_⟩⟩⟩
 rw [if_neg (by decide)]
 have sCG:=sD.trans (sE.trans sG)
 dsimp only [a_seq]
 k_typeOf
 have eHdG:=sCG _ _ eHd
 refine⟨_,SqL.of eHdG,_,rfl,_,SqL.of eHdG,_,rfl,false,F,L,fb,sv,qs,gs,k,n,rfl,sCG _ _ eFC,lhFC.same sCG,sCG _ _ eL,tsvC.same sCG,SM,vd,hcg,fun v2 HI sI ct2=>⟨v2,k,rfl,ct2,fun HJ sJ=>⟨true,rfl,?_⟩⟩⟩
 rw [if_neg (by decide)]
 have sCJ:=sCG.trans (sI.trans sJ)
 clear sD sE sG sCG sI sJ eHdD eHdG ct ct2
 obtain⟨M,hM⟩:∃M:L2.St->Hp->Prop,∀σ Hx,M σ Hx↔∃r9:Option V,σ=[some (V.ref a),some (V.ref R),some (V.ref S),some (V.ref Gd),some (V.int (many:Int)),some (V.ref Sd),some (V.ref Hd),some (V.int (k:Int)),some (if k=3 then V.int (n:Int) else V.non),r9]∧Same HC Hx:=⟨_,fun _ _=>Iff.rfl⟩
 refine mid_of M ?_ ?_
 ·k_units
  refine ite2 (fun h3=>?_) (fun h3=>(hM _ _).mpr ⟨_,rfl,sCJ⟩)
  obtain rfl:k=3:=by omega
  have eHdJ:=sCJ _ _ eHd
  refine⟨_,SqL.of eHdJ,_,rfl,_,SqL.of eHdJ,_,rfl,F,L,fb,sv,qs,gs,n,rfl,sCJ _ _ eFC,lhFC.same sCJ,sCJ _ _ eL,tsvC.same sCJ,SM,vd,fun HK sK=>?_⟩
  show rNe (V.int (n:Int)) (V.int (n:Int)) HK _
  k_units
  rw [if_neg (by simp)]
  refine⟨_,.int _,_,rfl,?_⟩
  rw [if_neg (by decide)]
  exact (hM _ _).mpr ⟨_,rfl,sCJ.trans sK⟩
 intro σ HK hm
 obtain⟨r9,rfl,sCK⟩:=(hM _ _).mp hm
 clear hm hM M sCJ
 obtain⟨M,hM⟩:∃M:L2.St->Hp->Prop,∀σ Hx,M σ Hx↔∃r7 r8 r9:Option V,σ=[some (V.ref a),some (V.ref R),some (V.ref S),some (V.ref Gd),some (V.int (many:Int)),some (V.ref Sd),some (V.ref Hd),r7,r8,r9]∧Same HC Hx:=⟨_,fun _ _=>Iff.rfl⟩
 have dvp:∀(Hx:Hp) (P A B:Addr) (al bl:List Addr) (pl:List (List Int)) (gl:List (Int×Int)),Hx P=some (.lst [V.ref A,V.ref B])->Hx A=some (.lst (al.map V.ref))->LH Hx al pl->Hx B=some (.lst (bl.map V.ref))->TH Hx bl gl->DV K Hx (V.ref P) (.list [.list (pl.map dL),.list (gl.map dT)]):=fun Hx P A B al bl pl gl e1 e2 e3 e4 e5=>.lst (SqL.of e1) (.cons (dv_ll (SqL.of e2) e3.ll) (.cons (.lst (SqL.of e4) (dvs_tl _ _ e5.tl)) .nil))
 have layP:∀(pl:List (List Int)) (gl:List (Int×Int)),PyData.canLay0 (.list [.list (pl.map dL),.list (gl.map dT)])=true:=fun pl gl=>by simp [PyData.canLay0,PyData.canLayAll0,layAll_ll,layAll_tl]
 have depP:∀(pl:List (List Int)) (gl:List (Int×Int)),PyData.depth (.list [.list (pl.map dL),.list (gl.map dT)])<=64:=fun pl gl=>by
  have h1:=depAll_ll pl
  have h2:=depAll_tl gl
  simp [PyData.depth,PyData.depthAll];omega
 have eqP:∀(pl:List (List Int)) (gl:List (Int×Int)),PyData.eqv (.list [.list (pl.map dL),.list (gl.map dT)]) (.list [.list (pl.map dL),.list (gl.map dT)])=true:=fun pl gl=>by simp [PyData.eqv,PyData.eqvAll,eqvAll_ll,eqvAll_tl]
 refine mid_of M ?_ ?_
 ·k_units
  have eHdK:=sCK _ _ eHd
  refine⟨_,dvp HK Hd F L fb sv qs gs eHdK (sCK _ _ eFC) (lhFC.same sCK) (sCK _ _ eL) (tsvC.same sCK),_,dvp HK Sd SR SV sr sv qs gs (sCK _ _ eSdC) (sCK _ _ eSRC) (lsrC.same sCK) (sCK _ _ eSVC) (tsvC.same sCK),layP _ _,layP _ _,depP _ _,?_⟩
  rw [eqP,if_neg (by decide)]
  refine ite2 (fun h10=>?_) (fun h10=>(hM _ _).mpr ⟨_,_,_,rfl,sCK⟩)
  obtain rfl:k=10:=by omega
  obtain⟨m,Cm⟩:=vd_cr SM vd
  refine⟨_,SqL.of eHdK,_,rfl,_,SqL.of eHdK,_,rfl,F,L,fb,sv,qs,gs,m,rfl,sCK _ _ eFC,lhFC.same sCK,sCK _ _ eL,tsvC.same sCK,by omega,Cm,fun HM sM=>⟨true,rfl,?_⟩⟩
  rw [if_neg (by decide)]
  exact (hM _ _).mpr ⟨_,_,_,rfl,sCK.trans sM⟩
 intro σ HN hm
 obtain⟨r7,r8,r9,rfl,sCN⟩:=(hM _ _).mp hm
 clear hm hM M sCK
 have s7N:=s7C.trans sCN
 dsimp only [a_seq]
 k_typeOf
 have n7F:H7 F=none:=s79.free nF
 have n7L:H7 L=none:=s79.free nLA
 have eHdN:=sCN _ _ eHd
 have eFN:=sCN _ _ eFC
 have eLN:=sCN _ _ eL
 refine⟨_,SqL.of eHdN,_,rfl,a_tyL (SqL.of eFN),F,rfl,_,eFN,?_⟩
 have w1:=s7N.more (o:=.lst []) n7F
 have e1H:upd HN F (.lst []) Hd=some (.lst [V.ref F,V.ref L]):=by rw [upd_ne nHF];exact eHdN
 have e1F:upd HN F (.lst []) F=some (.lst []):=upd_same
 have e1L:upd HN F (.lst []) L=some (.lst (sv.map V.ref)):=by rw [upd_ne (Ne.symm nFL)];exact eLN
 generalize upd HN F (.lst [])=G1 at w1 e1H e1F e1L ⊢
 clear eHdN eFN eLN s7N sCN s7C s1C eHd eFC eL lhFC
 dsimp only [a_seq]
 k_typeOf
 refine⟨_,SqL.of e1H,_,rfl,a_tyL (SqL.of e1F),_,SqL.of (w1 _ _ eGd7),_,rfl,_,rfl,⟨_,SqL.of (w1 _ _ eRu7)⟩,fun D2 nD2=>cl_ll nD2 (SqL.of (w1 _ _ eRu7)) (lhu7.same w1).ll (ds:=rule) rfl (by omega) (fun i b' p d Hx R' hp hd sx hB hR=>?_) fun Y yb G2 t2 nY eY lhY nyb Yyb ndY=>?_⟩
 ·obtain rfl:p=d:=by rw [hp] at hd;exact Option.some.inj hd
  (iterate 3 (k_units;(try simp only [bst]));k_units)
  exact⟨_,.inl hB,fun l nl=>hR l _ (same_upd nl _) nl upd_same⟩
 have lyb:=lhY.len
 refine ext_in (t2 _ _ e1F) eY (by rw [List.length_map,sizeLine_eq];simp;omega) ?_
 have nFyb:F∉yb:=fun z=>by have:=nyb F z;rw [e1F] at this;cases this
 have nLyb:L∉yb:=fun z=>by have:=nyb L z;rw [e1L] at this;cases this
 have w2:=(w1.trans t2).more (o:=.lst ([]++yb.map V.ref)) n7F
 have e2H:upd G2 F (.lst ([]++yb.map V.ref)) Hd=some (.lst [V.ref F,V.ref L]):=by rw [upd_ne nHF];exact t2 _ _ e1H
 have e2F:upd G2 F (.lst ([]++yb.map V.ref)) F=some (.lst (yb.map V.ref)):=upd_same
 have e2L:upd G2 F (.lst ([]++yb.map V.ref)) L=some (.lst (sv.map V.ref)):=by rw [upd_ne (Ne.symm nFL)];exact t2 _ _ e1L
 have e2Y:LH (upd G2 F (.lst ([]++yb.map V.ref))) yb rule:=LH.upd lhY nFyb
 generalize upd G2 F (.lst ([]++yb.map V.ref))=G3 at w2 e2H e2F e2L e2Y ⊢
 clear w1 t2 e1H e1F e1L eY lhY nY nyb
 dsimp only [a_seq]
 k_typeOf
 refine⟨_,SqL.of e2H,_,rfl,a_tyL (SqL.of e2L),L,rfl,_,e2L,?_⟩
 have w3:=w2.more (o:=.lst []) n7L
 have e3H:upd G3 L (.lst []) Hd=some (.lst [V.ref F,V.ref L]):=by rw [upd_ne nHL];exact e2H
 have e3F:upd G3 L (.lst []) F=some (.lst (yb.map V.ref)):=by rw [upd_ne nFL];exact e2F
 have e3L:upd G3 L (.lst []) L=some (.lst []):=upd_same
 have e3Y:LH (upd G3 L (.lst [])) yb rule:=LH.upd e2Y nLyb
 generalize upd G3 L (.lst [])=G4 at w3 e3H e3F e3L e3Y ⊢
 clear w2 e2H e2F e2L e2Y
 dsimp only [a_seq]
 k_typeOf
 have lvs:=th7.len
 refine⟨_,SqL.of e3H,_,rfl,a_tyL (SqL.of e3L),_,SqL.of (w3 _ _ eGd7),_,rfl,ext_in e3L (w3 _ _ eV7) (by rw [List.length_map,sizeLine_eq];simp;omega) ?_⟩
 have w4:=w3.more (o:=.lst ([]++vs.map V.ref)) n7L
 have e4H:upd G4 L (.lst ([]++vs.map V.ref)) Hd=some (.lst [V.ref F,V.ref L]):=by rw [upd_ne nHL];exact e3H
 have e4F:upd G4 L (.lst ([]++vs.map V.ref)) F=some (.lst (yb.map V.ref)):=by rw [upd_ne nFL];exact e3F
 have e4L:upd G4 L (.lst ([]++vs.map V.ref)) L=some (.lst (vs.map V.ref)):=upd_same
 have e4Y:LH (upd G4 L (.lst ([]++vs.map V.ref))) yb rule:=LH.upd e3Y nLyb
 generalize upd G4 L (.lst ([]++vs.map V.ref))=G5 at w4 e4H e4F e4L e4Y ⊢
 clear w3 e3H e3F e3L e3Y
 have CF:Cr rule fs (maxR rs):=⟨IR,by omega,brule,lm60,c1,c2,by omega,gfs,kpr⟩
 k_units
 refine⟨_,SqL.of e4H,_,rfl,_,SqL.of e4H,_,rfl,F,L,yb,vs,rule,fs,maxR rs,rfl,e4F,e4Y,e4L,th7.same w4,by omega,CF,fun G6 t6=>?_⟩
 have w6:=w4.trans t6
 refine⟨true,rfl,?_⟩
 rw [if_pos rfl]
 refine⟨_,dvp G6 Hd F L yb vs rule fs (t6 _ _ e4H) (t6 _ _ e4F) (e4Y.same t6) (t6 _ _ e4L) (th7.same w6),_,dvp G6 Gd Ru Vf ru vs rule fs (w6 _ _ eGd7) (w6 _ _ eRu7) (lhu7.same w6) (w6 _ _ eV7) (th7.same w6),layP _ _,layP _ _,depP _ _,?_⟩
 rw [eqP]
 exact q _
theorem ln_1 {us:List Value} (h:us.length=1):∃x0,us=[x0]:=by
 obtain⟨x0,u0,rfl⟩:=List.exists_cons_of_length_eq_add_one h
 exact⟨x0,by rw [List.eq_nil_of_length_eq_zero (Nat.succ.inj h)]⟩
theorem ln_2 {us:List Value} (h:us.length=2):∃x0 x1,us=[x0,x1]:=by
 obtain⟨x0,u0,rfl⟩:=List.exists_cons_of_length_eq_add_one h
 obtain⟨x1,u1,rfl⟩:=List.exists_cons_of_length_eq_add_one (Nat.succ.inj h)
 exact⟨x0,x1,by rw [List.eq_nil_of_length_eq_zero (Nat.succ.inj (Nat.succ.inj h))]⟩
theorem ln_3 {us:List Value} (h:us.length=3):∃x0 x1 x2,us=[x0,x1,x2]:=by
 obtain⟨x0,u0,rfl⟩:=List.exists_cons_of_length_eq_add_one h
 obtain⟨x1,u1,rfl⟩:=List.exists_cons_of_length_eq_add_one (Nat.succ.inj h)
 obtain⟨x2,u2,rfl⟩:=List.exists_cons_of_length_eq_add_one (Nat.succ.inj (Nat.succ.inj h))
 exact⟨x0,x1,x2,by rw [List.eq_nil_of_length_eq_zero (Nat.succ.inj (Nat.succ.inj (Nat.succ.inj h)))]⟩
theorem ln_4 {us:List Value} (h:us.length=4):∃x0 x1 x2 x3,us=[x0,x1,x2,x3]:=by
 obtain⟨x0,u0,rfl⟩:=List.exists_cons_of_length_eq_add_one h
 obtain⟨x1,u1,rfl⟩:=List.exists_cons_of_length_eq_add_one (Nat.succ.inj h)
 obtain⟨x2,u2,rfl⟩:=List.exists_cons_of_length_eq_add_one (Nat.succ.inj (Nat.succ.inj h))
 obtain⟨x3,u3,rfl⟩:=List.exists_cons_of_length_eq_add_one (Nat.succ.inj (Nat.succ.inj (Nat.succ.inj h)))
 exact⟨x0,x1,x2,x3,by rw [List.eq_nil_of_length_eq_zero (Nat.succ.inj (Nat.succ.inj (Nat.succ.inj (Nat.succ.inj h))))]⟩
local macro_rules | `(tactic| o_law)=>`(tactic| (intro _ _ _ _ _ _ us hl;first | (obtain⟨x0,e⟩:=ln_1 hl;subst e;rfl) | (obtain⟨x0,x1,e⟩:=ln_2 hl;subst e;rfl) | (obtain⟨x0,x1,x2,e⟩:=ln_3 hl;subst e;rfl) | (obtain⟨x0,x1,x2,x3,e⟩:=ln_4 hl;subst e;rfl)))
abbrev fdK (x q:Str) (st:Stmt) (pm:Value) (c:Nat):FuncData:=PySem.W.fnOf x q (defArgs st) (defBody st) (defScope st) .none .none .none pm none (.ref c) .none
abbrev FU (P:Params) (x q:Str) (st:Stmt) (f:Addr) (pm:Value) (c:Nat):Prop:=Fun (KK P) x q st f (fdK x q st pm c)
theorem fuk {P:Params} {x q:Str} {st:Stmt} {f:Addr} {pm:Value} {c:Nat} (l:(KK P).lookup f=some ⟨.type "function",none,.func (fdK x q st pm c),#[]⟩:=by kernel_rfl) (h:PySem.W.codeIn (KK P) (.ref c) q=true:=by kernel_rfl) (k:PySem.W.keepIn (KK P) (.ref f)=true:=by kernel_rfl):FU P x q st f pm c:=fun_mk l h k
abbrev pm0:Value:=.str "sumcraft.polys" 376
abbrev pm1:Value:=.str "sumcraft.ratios" 407
abbrev pm2:Value:=.str "sumcraft.reaches" 451
abbrev pm3:Value:=.str "sumcraft.rules" 472
abbrev pm4:Value:=.str "law_sumcraft_k14_rows_refused" 605
abbrev pm5:Value:=.str "sumcraft.errors" 187
abbrev pm6:Value:=.str "sumcraft.rows" 559
theorem kf0 (P:Params):FU P "trimmed" "trimmed" s_trimmed 161 pm0 160:=fuk
theorem kf1 (P:Params):FU P "shifted" "shifted" s_shifted 168 pm0 167:=fuk
theorem kf2 (P:Params):FU P "poly_value" "poly_value" s_poly_value 175 pm0 174:=fuk
theorem kf3 (P:Params):FU P "divisor" "divisor" s_divisor 189 pm1 188:=fuk
theorem kf4 (P:Params):FU P "ratio" "ratio" s_ratio 196 pm1 195:=fuk
theorem kf5 (P:Params):FU P "clear" "clear" s_clear 203 pm2 202:=fuk
theorem kf6 (P:Params):FU P "reach" "reach" s_reach 210 pm2 209:=fuk
theorem kf7 (P:Params):FU P "order_of" "order_of" s_order_of 217 pm3 216:=fuk
theorem kf8 (P:Params):FU P "need_of" "need_of" s_need_of 224 pm3 223:=fuk
theorem kf9 (P:Params):FU P "weighted" "weighted" s_weighted 231 pm3 230:=fuk
theorem kf10 (P:Params):FU P "parted" "parted" s_parted 238 pm3 237:=fuk
theorem kf11 (P:Params):FU P "total" "total" s_total 243 pm3 242:=fuk
theorem kf12 (P:Params):FU P "rule_sum" "rule_sum" s_rule_sum 248 pm3 247:=fuk
theorem kf13 (P:Params):FU P "keeps" "keeps" s_keeps 255 pm3 254:=fuk
theorem kf14 (P:Params):FU P "check_first" "check_first" s_check_first 262 pm3 261:=fuk
theorem kf15 (P:Params):FU P "next_value" "next_value" s_next_value 269 pm3 268:=fuk
theorem kf16 (P:Params):FU P "carried_on" "carried_on" s_carried_on 276 pm3 275:=fuk
theorem kf17 (P:Params):FU P "_law_cell_at" "_law_cell_at" s__law_cell_at 314 pm4 313:=fuk
theorem kf18 (P:Params):FU P "_law_number" "_law_number" s__law_number 321 pm4 320:=fuk
theorem kf19 (P:Params):FU P "_law_cut" "_law_cut" s__law_cut 328 pm4 327:=fuk
theorem kf20 (P:Params):FU P "_law_product" "_law_product" s__law_product 335 pm4 334:=fuk
theorem kf21 (P:Params):FU P "_law_value" "_law_value" s__law_value 342 pm4 341:=fuk
theorem kf22 (P:Params):FU P "_law_divisor" "_law_divisor" s__law_divisor 349 pm4 348:=fuk
theorem kf23 (P:Params):FU P "_law_lowest" "_law_lowest" s__law_lowest 356 pm4 355:=fuk
theorem kf24 (P:Params):FU P "_law_fraction" "_law_fraction" s__law_fraction 363 pm4 362:=fuk
theorem kf25 (P:Params):FU P "_law_weighed" "_law_weighed" s__law_weighed 370 pm4 369:=fuk
theorem kf26 (P:Params):FU P "_law_last" "_law_last" s__law_last 375 pm4 374:=fuk
theorem kf27 (P:Params):FU P "_law_parts" "_law_parts" s__law_parts 380 pm4 379:=fuk
theorem kf28 (P:Params):FU P "_law_roots" "_law_roots" s__law_roots 385 pm4 384:=fuk
theorem kf29 (P:Params):FU P "_law_rule" "_law_rule" s__law_rule 390 pm4 389:=fuk
theorem kf30 (P:Params):FU P "_law_need" "_law_need" s__law_need 395 pm4 394:=fuk
theorem kf31 (P:Params):FU P "_law_values" "_law_values" s__law_values 402 pm4 401:=fuk
theorem kf32 (P:Params):FU P "_law_spoiled_first" "_law_spoiled_first" s__law_spoiled_first 409 pm4 408:=fuk
theorem kf33 (P:Params):FU P "_law_spoiled_rule" "_law_spoiled_rule" s__law_spoiled_rule 414 pm4 413:=fuk
theorem kf34 (P:Params):FU P "_law_due" "_law_due" s__law_due 419 pm4 418:=fuk
theorem kf35 (P:Params):FU P "_law_caught" "_law_caught" s__law_caught 426 pm4 425:=fuk
theorem kf36 (P:Params):FU P "_law_place" "_law_place" s__law_place 433 pm4 432:=fuk
theorem kf37 (P:Params):FU P "_law_is" "_law_is" s__law_is 438 pm4 437:=fuk
theorem kf38 (P:Params):FU P "_law_taken" "_law_taken" s__law_taken 443 pm4 442:=fuk
theorem kf39 (P:Params):FU P "law" "law" s_law 448 pm4 447:=fuk
theorem kf40 (P:Params):FU P "__init__" "NotKept.__init__" s_NotKept___init__ 77 pm5 76:=fuk
theorem kf41 (P:Params):FU P "__init__" "Row.__init__" s_Row___init__ 288 pm6 287:=fuk
theorem kf42 (P:Params):FU P "at" "Row.at" s_Row_at 295 pm6 294:=fuk
theorem kf43 (P:Params):FU P "told" "Row.told" s_Row_told 300 pm6 299:=fuk
theorem walk {l:PySem.W.OpenLaw} {q:Program} {loose:List Str} {XP:(Str->Option Value)->Heap->Prop} {YP:World->Heap->Prop} {d:DefRec} {K:Params->W.Frag} (hn:l.most=some 63) (hdf:d.params.defaults=[])
  (hY:∀(w:World) (h:Heap),YP w h->(K w.params).In h)
  (F:∀(w:World) (mg:Str->Option Value) (fa:Addr) (h:Heap),(K w.params).In h->h.Ns mainGlobals mg->mg d.name=some (.ref fa)->
   ∃T:Tx (K w.params) mg,T.a_law=fa∧∀(s:Shared) (v:Value),BindsTo s T.fd_law ⟨[v],[]⟩ [("_law_script",v)]):
  PySem.W.WalkO q loose XP YP l.row.toRowW d [] (fun f vs=>PySem.call f vs):=
 L2.walk_of (n:=63) (k:=20) (x := "_law_script") (CX:=fun _=>CX0) (sp:=fun w=>spLaw (K w.params)) hn (by decide) hdf ⟨rfl,by decide,by decide⟩ hY
  (fun w mg fa h KX G hmg=>by
   obtain⟨T,e,hb⟩:=F w mg fa h KX G hmg
   subst e
   exact⟨T.fd_law,hb,fun base _ _=>FnOk.mono (ok_law T) (by decide)⟩)
  (fun _ H a ns hl _ hS=>⟨a,ns,rfl,hS,hl,fun _=>rfl⟩) fun _ _ _ _ _ z=>z
theorem facts (w:World) (mg:Str->Option Value) (fa:Addr) (h:Heap) (KX:(KK w.params).In h) (G:h.Ns mainGlobals mg) (hmg:mg "law" = some (.ref fa)):
  ∃T:Tx (KK w.params) mg,T.a_law=fa∧∀(s:Shared) (v:Value),BindsTo s T.fd_law ⟨[v],[]⟩ [("_law_script",v)]:=by
 have ma:∀{x:Str} {f:Addr},PySem.W.nsIn (KK w.params) mainGlobals x=some (some (.ref f))->mg x=some (.ref f):=fun e=>PySem.W.mg_of KX G e
 have mi:∀{x:Str} {i:Int} {t:Tok},PySem.W.nsIn (KK w.params) mainGlobals x=some (some (.int i t))->mg x=some (.int i t):=fun e=>PySem.W.mg_of KX G e
 have mz:∀{x:Str},PySem.W.nsIn (KK w.params) mainGlobals x=some none->mg x=none:=fun e=>PySem.W.mg_none_of KX G e
 have e:=hmg.symm.trans (ma (f:=448) (by kernel_rfl))
 cases e
 exact⟨⟨_,_,kf0 _,ma (by kernel_rfl),(kf0 _).binds (by o_law),_,_,kf1 _,ma (by kernel_rfl),(kf1 _).binds (by o_law),_,_,kf2 _,ma (by kernel_rfl),(kf2 _).binds (by o_law),_,_,kf3 _,ma (by kernel_rfl),(kf3 _).binds (by o_law),_,_,kf4 _,ma (by kernel_rfl),(kf4 _).binds (by o_law),_,_,kf5 _,ma (by kernel_rfl),(kf5 _).binds (by o_law),_,_,kf6 _,ma (by kernel_rfl),(kf6 _).binds (by o_law),_,_,kf7 _,ma (by kernel_rfl),(kf7 _).binds (by o_law),_,_,kf8 _,ma (by kernel_rfl),(kf8 _).binds (by o_law),_,_,kf9 _,ma (by kernel_rfl),(kf9 _).binds (by o_law),_,_,kf10 _,ma (by kernel_rfl),(kf10 _).binds (by o_law),_,_,kf11 _,ma (by kernel_rfl),(kf11 _).binds (by o_law),_,_,kf12 _,ma (by kernel_rfl),(kf12 _).binds (by o_law),_,_,kf13 _,ma (by kernel_rfl),(kf13 _).binds (by o_law),_,_,kf14 _,ma (by kernel_rfl),(kf14 _).binds (by o_law),_,_,kf15 _,ma (by kernel_rfl),(kf15 _).binds (by o_law),_,_,kf16 _,ma (by kernel_rfl),(kf16 _).binds (by o_law),_,_,kf17 _,ma (by kernel_rfl),(kf17 _).binds (by o_law),_,_,kf18 _,ma (by kernel_rfl),(kf18 _).binds (by o_law),_,_,kf19 _,ma (by kernel_rfl),(kf19 _).binds (by o_law),_,_,kf20 _,ma (by kernel_rfl),(kf20 _).binds (by o_law),_,_,kf21 _,ma (by kernel_rfl),(kf21 _).binds (by o_law),_,_,kf22 _,ma (by kernel_rfl),(kf22 _).binds (by o_law),_,_,kf23 _,ma (by kernel_rfl),(kf23 _).binds (by o_law),_,_,kf24 _,ma (by kernel_rfl),(kf24 _).binds (by o_law),_,_,kf25 _,ma (by kernel_rfl),(kf25 _).binds (by o_law),_,_,kf26 _,ma (by kernel_rfl),(kf26 _).binds (by o_law),_,_,kf27 _,ma (by kernel_rfl),(kf27 _).binds (by o_law),_,_,kf28 _,ma (by kernel_rfl),(kf28 _).binds (by o_law),_,_,kf29 _,ma (by kernel_rfl),(kf29 _).binds (by o_law),_,_,kf30 _,ma (by kernel_rfl),(kf30 _).binds (by o_law),_,_,kf31 _,ma (by kernel_rfl),(kf31 _).binds (by o_law),_,_,kf32 _,ma (by kernel_rfl),(kf32 _).binds (by o_law),_,_,kf33 _,ma (by kernel_rfl),(kf33 _).binds (by o_law),_,_,kf34 _,ma (by kernel_rfl),(kf34 _).binds (by o_law),_,_,kf35 _,ma (by kernel_rfl),(kf35 _).binds (by o_law),_,_,kf36 _,ma (by kernel_rfl),(kf36 _).binds (by o_law),_,_,kf37 _,ma (by kernel_rfl),(kf37 _).binds (by o_law),_,_,kf38 _,ma (by kernel_rfl),(kf38 _).binds (by o_law),_,_,kf39 _,ma (by kernel_rfl),(kf39 _).binds (by o_law),_,_,kf40 _,(kf40 _).binds (by o_law),_,_,kf41 _,(kf41 _).binds (by o_law),_,_,kf42 _,(kf42 _).binds (by o_law),_,_,kf43 _,(kf43 _).binds (by o_law),37,ma (by kernel_rfl),by kernel_rfl,92,ma (by kernel_rfl),by kernel_rfl,49,ma (by kernel_rfl),by kernel_rfl,104,ma (by kernel_rfl),by kernel_rfl,61,ma (by kernel_rfl),by kernel_rfl,24,ma (by kernel_rfl),116,ma (by kernel_rfl),128,ma (by kernel_rfl),140,ma (by kernel_rfl),152,ma (by kernel_rfl),303,ma (by kernel_rfl),⟨by kernel_rfl,by kernel_rfl,by kernel_rfl,by kernel_rfl⟩,⟨by kernel_rfl,by kernel_rfl,by kernel_rfl,by kernel_rfl⟩,⟨by kernel_rfl,by kernel_rfl,by kernel_rfl⟩,⟨by kernel_rfl,by kernel_rfl,by kernel_rfl⟩,by show PySem.W.findIn _ _ _=_;kernel_rfl,by show PySem.W.findIn _ _ _=_;kernel_rfl,80,ma (by kernel_rfl),⟨by kernel_rfl,by kernel_rfl,by kernel_rfl,by kernel_rfl,by kernel_rfl,by kernel_rfl⟩,⟨by kernel_rfl,by kernel_rfl,by kernel_rfl⟩,⟨by kernel_rfl,by kernel_rfl,by kernel_rfl⟩,⟨ExcO.of (by kernel_rfl),ExcO.of (by kernel_rfl),by kernel_rfl,by kernel_rfl⟩,⟨ExcO.of (by kernel_rfl),ExcO.of (by kernel_rfl),by kernel_rfl,by kernel_rfl⟩,⟨ExcO.of (by kernel_rfl),ExcO.of (by kernel_rfl),by kernel_rfl,by kernel_rfl⟩,⟨ExcO.ofI (fI:=77) (by kernel_rfl),ExcO.of (by kernel_rfl),by kernel_rfl,by kernel_rfl⟩,⟨ExcO.ofI (fI:=77) (by kernel_rfl),ExcO.ofI (fI:=77) (by kernel_rfl),by kernel_rfl,by kernel_rfl⟩,⟨ExcO.of (by kernel_rfl),by kernel_rfl,by kernel_rfl,by kernel_rfl,by kernel_rfl,by kernel_rfl,by kernel_rfl,by kernel_rfl⟩,⟨ExcO.of (by kernel_rfl),by kernel_rfl,by kernel_rfl,by kernel_rfl,by kernel_rfl,by kernel_rfl,by kernel_rfl,by kernel_rfl⟩,⟨ExcO.of (by kernel_rfl),by kernel_rfl,by kernel_rfl,by kernel_rfl,by kernel_rfl,by kernel_rfl,by kernel_rfl,by kernel_rfl⟩,⟨ExcO.ofI (fI:=77) (by kernel_rfl),by kernel_rfl,by kernel_rfl,by kernel_rfl,by kernel_rfl,by kernel_rfl,by kernel_rfl,by kernel_rfl⟩,by kernel_rfl,by kernel_rfl,by kernel_rfl,by kernel_rfl,by kernel_rfl,by kernel_rfl,by kernel_rfl,by kernel_rfl,by kernel_rfl,by kernel_rfl,by kernel_rfl,by kernel_rfl,by kernel_rfl,by kernel_rfl,by kernel_rfl,by kernel_rfl,by kernel_rfl,by kernel_rfl,by kernel_rfl,by kernel_rfl,by kernel_rfl,by kernel_rfl,by kernel_rfl,by kernel_rfl,by kernel_rfl,by kernel_rfl,by kernel_rfl,by kernel_rfl,by kernel_rfl,by kernel_rfl,by kernel_rfl,by kernel_rfl,by kernel_rfl,by kernel_rfl,by kernel_rfl,by kernel_rfl,by kernel_rfl,by kernel_rfl,by kernel_rfl,by kernel_rfl,by kernel_rfl,by kernel_rfl,by kernel_rfl,by kernel_rfl,by kernel_rfl,by kernel_rfl,by kernel_rfl,by kernel_rfl,by kernel_rfl,by kernel_rfl,by kernel_rfl,by kernel_rfl,by kernel_rfl,by kernel_rfl,mz (by kernel_rfl),mz (by kernel_rfl),mz (by kernel_rfl),mz (by kernel_rfl),mz (by kernel_rfl),mz (by kernel_rfl),mz (by kernel_rfl),mz (by kernel_rfl),mz (by kernel_rfl),mz (by kernel_rfl),mz (by kernel_rfl),mz (by kernel_rfl),⟨409,mi (by kernel_rfl)⟩,⟨453,mi (by kernel_rfl)⟩,⟨561,mi (by kernel_rfl)⟩⟩,rfl,fun s v=>.of_eq rfl⟩
end My
open PySem PySem.W PyProof.Rows
set_option maxRecDepth 100000 in
set_option maxHeartbeats 0 in
theorem PySem.Challenge.cw_sumcraft_k14_rows_refused_holds : PySem.Challenge.rw_sumcraft_k14_rows_refused.Holds := by
 refine holds_law My.h_well fun said=>?_
 refine holds_open (r:=PySem.Challenge.rw_sumcraft_k14_rows_refused.row)
  (q:=My.qv) (loose:=[]) (Xt:=My.xt)
  (XP:=XL My.qv []) (Yf:=My.hk.obs) (Ya:=My.hk.val)
  (YP:=My.hk.says) (N:=8056)
  My.left My.hk.of My.hk.keeps
  (fun s e=>xl_of s (Bool.and_eq_true_iff.mp e).1)
  XL.keeps (by rfl) (by rfl) (by rfl)
  (fun s e=>recFacts_of (Bool.and_eq_true_iff.mp e).2)
  (by rfl) said (by decide +kernel)
  My.h_bare ?wit ?go
 case wit=>w_witness2
 case go=>exact My.walk (l:=PySem.Challenge.rw_sumcraft_k14_rows_refused) rfl rfl (fun w h Y=>kIn_of Y) My.facts
