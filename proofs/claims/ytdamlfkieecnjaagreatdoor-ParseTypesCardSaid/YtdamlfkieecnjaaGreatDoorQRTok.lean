import Derived.Test.YtdamlfkieecnjaaGreatDoorQPMem
import Derived.Test.YtdamlfkieecnjaaGreatDoorQAmTk

namespace Go.Proofs.YtdamlfkieecnjaaGreatDoor
open Go Go.RowKit Go.Shelf Go.Proofs Am Lx
def tb0:List UInt8:=[42,123,97,32,105,110,116,59,32,101,109,98,101,100,32,98,32,66,59,125]
def tt0:List Tok:=[(0,6,[42],0),(1,6,[123],0),(2,1,[97],0),(4,3,[105,110,116],0),(7,6,[59],0),(9,3,[101,109,98,101,100],0),(15,1,[98],0),(17,2,[66],0),(18,6,[59],0),(19,6,[125],0)]
def tc0:List Value:=[(.int .i64 (.ofNat 0)),(.int .i64 (.ofNat 6)),(.string ⟨⟨[42]⟩⟩),(.int .i64 (.ofNat 0)),(.int .i64 (.ofNat 1)),(.int .i64 (.ofNat 6)),(.string ⟨⟨[123]⟩⟩),(.int .i64 (.ofNat 0)),(.int .i64 (.ofNat 2)),(.int .i64 (.ofNat 1)),(.string ⟨⟨[97]⟩⟩),(.int .i64 (.ofNat 0)),(.int .i64 (.ofNat 4)),(.int .i64 (.ofNat 3)),(.string ⟨⟨[105,110,116]⟩⟩),(.int .i64 (.ofNat 0)),(.int .i64 (.ofNat 7)),(.int .i64 (.ofNat 6)),(.string ⟨⟨[59]⟩⟩),(.int .i64 (.ofNat 0)),(.int .i64 (.ofNat 9)),(.int .i64 (.ofNat 3)),(.string ⟨⟨[101,109,98,101,100]⟩⟩),(.int .i64 (.ofNat 0)),(.int .i64 (.ofNat 15)),(.int .i64 (.ofNat 1)),(.string ⟨⟨[98]⟩⟩),(.int .i64 (.ofNat 0)),(.int .i64 (.ofNat 17)),(.int .i64 (.ofNat 2)),(.string ⟨⟨[66]⟩⟩),(.int .i64 (.ofNat 0)),(.int .i64 (.ofNat 18)),(.int .i64 (.ofNat 6)),(.string ⟨⟨[59]⟩⟩),(.int .i64 (.ofNat 0)),(.int .i64 (.ofNat 19)),(.int .i64 (.ofNat 6)),(.string ⟨⟨[125]⟩⟩),(.int .i64 (.ofNat 0))]
theorem tl0:lex tb0=(tt0,none):=by kernel_rfl
theorem ta0:Jg tt0=tc0:=by kernel_rfl
def tb1:List UInt8:=[49,43,50,42,51]
def tt1:List Tok:=[(0,4,[],1),(1,6,[43],0),(2,4,[],2),(3,6,[42],0),(4,4,[],3)]
def tc1:List Value:=[(.int .i64 (.ofNat 0)),(.int .i64 (.ofNat 4)),(.string ⟨⟨[]⟩⟩),(.int .i64 (.ofNat 1)),(.int .i64 (.ofNat 1)),(.int .i64 (.ofNat 6)),(.string ⟨⟨[43]⟩⟩),(.int .i64 (.ofNat 0)),(.int .i64 (.ofNat 2)),(.int .i64 (.ofNat 4)),(.string ⟨⟨[]⟩⟩),(.int .i64 (.ofNat 2)),(.int .i64 (.ofNat 3)),(.int .i64 (.ofNat 6)),(.string ⟨⟨[42]⟩⟩),(.int .i64 (.ofNat 0)),(.int .i64 (.ofNat 4)),(.int .i64 (.ofNat 4)),(.string ⟨⟨[]⟩⟩),(.int .i64 (.ofNat 3))]
theorem tl1:lex tb1=(tt1,none):=by kernel_rfl
theorem ta1:Jg tt1=tc1:=by kernel_rfl
def tb2:List UInt8:=[97,46,98,40,99,41,46,100,32,116,111,32,84]
def tt2:List Tok:=[(0,1,[97],0),(1,6,[46],0),(2,1,[98],0),(3,6,[40],0),(4,1,[99],0),(5,6,[41],0),(6,6,[46],0),(7,1,[100],0),(9,3,[116,111],0),(12,2,[84],0)]
def tc2:List Value:=[(.int .i64 (.ofNat 0)),(.int .i64 (.ofNat 1)),(.string ⟨⟨[97]⟩⟩),(.int .i64 (.ofNat 0)),(.int .i64 (.ofNat 1)),(.int .i64 (.ofNat 6)),(.string ⟨⟨[46]⟩⟩),(.int .i64 (.ofNat 0)),(.int .i64 (.ofNat 2)),(.int .i64 (.ofNat 1)),(.string ⟨⟨[98]⟩⟩),(.int .i64 (.ofNat 0)),(.int .i64 (.ofNat 3)),(.int .i64 (.ofNat 6)),(.string ⟨⟨[40]⟩⟩),(.int .i64 (.ofNat 0)),(.int .i64 (.ofNat 4)),(.int .i64 (.ofNat 1)),(.string ⟨⟨[99]⟩⟩),(.int .i64 (.ofNat 0)),(.int .i64 (.ofNat 5)),(.int .i64 (.ofNat 6)),(.string ⟨⟨[41]⟩⟩),(.int .i64 (.ofNat 0)),(.int .i64 (.ofNat 6)),(.int .i64 (.ofNat 6)),(.string ⟨⟨[46]⟩⟩),(.int .i64 (.ofNat 0)),(.int .i64 (.ofNat 7)),(.int .i64 (.ofNat 1)),(.string ⟨⟨[100]⟩⟩),(.int .i64 (.ofNat 0)),(.int .i64 (.ofNat 9)),(.int .i64 (.ofNat 3)),(.string ⟨⟨[116,111]⟩⟩),(.int .i64 (.ofNat 0)),(.int .i64 (.ofNat 12)),(.int .i64 (.ofNat 2)),(.string ⟨⟨[84]⟩⟩),(.int .i64 (.ofNat 0))]
theorem tl2:lex tb2=(tt2,none):=by kernel_rfl
theorem ta2:Jg tt2=tc2:=by kernel_rfl
def tb3:List UInt8:=[97,32,61,61,32,98,32,61,61,32,99]
def tt3:List Tok:=[(0,1,[97],0),(2,6,[61,61],0),(5,1,[98],0),(7,6,[61,61],0),(10,1,[99],0)]
def tc3:List Value:=[(.int .i64 (.ofNat 0)),(.int .i64 (.ofNat 1)),(.string ⟨⟨[97]⟩⟩),(.int .i64 (.ofNat 0)),(.int .i64 (.ofNat 2)),(.int .i64 (.ofNat 6)),(.string ⟨⟨[61,61]⟩⟩),(.int .i64 (.ofNat 0)),(.int .i64 (.ofNat 5)),(.int .i64 (.ofNat 1)),(.string ⟨⟨[98]⟩⟩),(.int .i64 (.ofNat 0)),(.int .i64 (.ofNat 7)),(.int .i64 (.ofNat 6)),(.string ⟨⟨[61,61]⟩⟩),(.int .i64 (.ofNat 0)),(.int .i64 (.ofNat 10)),(.int .i64 (.ofNat 1)),(.string ⟨⟨[99]⟩⟩),(.int .i64 (.ofNat 0))]
theorem tl3:lex tb3=(tt3,none):=by kernel_rfl
theorem ta3:Jg tt3=tc3:=by kernel_rfl
def tb4:List UInt8:=[110,101,119,32,80,123,120,58,32,49,44,32,120,58,32,50,125]
def tt4:List Tok:=[(0,3,[110,101,119],0),(4,2,[80],0),(5,6,[123],0),(6,1,[120],0),(7,6,[58],0),(9,4,[],1),(10,6,[44],0),(12,1,[120],0),(13,6,[58],0),(15,4,[],2),(16,6,[125],0)]
def tc4:List Value:=[(.int .i64 (.ofNat 0)),(.int .i64 (.ofNat 3)),(.string ⟨⟨[110,101,119]⟩⟩),(.int .i64 (.ofNat 0)),(.int .i64 (.ofNat 4)),(.int .i64 (.ofNat 2)),(.string ⟨⟨[80]⟩⟩),(.int .i64 (.ofNat 0)),(.int .i64 (.ofNat 5)),(.int .i64 (.ofNat 6)),(.string ⟨⟨[123]⟩⟩),(.int .i64 (.ofNat 0)),(.int .i64 (.ofNat 6)),(.int .i64 (.ofNat 1)),(.string ⟨⟨[120]⟩⟩),(.int .i64 (.ofNat 0)),(.int .i64 (.ofNat 7)),(.int .i64 (.ofNat 6)),(.string ⟨⟨[58]⟩⟩),(.int .i64 (.ofNat 0)),(.int .i64 (.ofNat 9)),(.int .i64 (.ofNat 4)),(.string ⟨⟨[]⟩⟩),(.int .i64 (.ofNat 1)),(.int .i64 (.ofNat 10)),(.int .i64 (.ofNat 6)),(.string ⟨⟨[44]⟩⟩),(.int .i64 (.ofNat 0)),(.int .i64 (.ofNat 12)),(.int .i64 (.ofNat 1)),(.string ⟨⟨[120]⟩⟩),(.int .i64 (.ofNat 0)),(.int .i64 (.ofNat 13)),(.int .i64 (.ofNat 6)),(.string ⟨⟨[58]⟩⟩),(.int .i64 (.ofNat 0)),(.int .i64 (.ofNat 15)),(.int .i64 (.ofNat 4)),(.string ⟨⟨[]⟩⟩),(.int .i64 (.ofNat 2)),(.int .i64 (.ofNat 16)),(.int .i64 (.ofNat 6)),(.string ⟨⟨[125]⟩⟩),(.int .i64 (.ofNat 0))]
theorem tl4:lex tb4=(tt4,none):=by kernel_rfl
theorem ta4:Jg tt4=tc4:=by kernel_rfl
def tb5:List UInt8:=[80,123,120,32,49,125]
def tt5:List Tok:=[(0,2,[80],0),(1,6,[123],0),(2,1,[120],0),(4,4,[],1),(5,6,[125],0)]
def tc5:List Value:=[(.int .i64 (.ofNat 0)),(.int .i64 (.ofNat 2)),(.string ⟨⟨[80]⟩⟩),(.int .i64 (.ofNat 0)),(.int .i64 (.ofNat 1)),(.int .i64 (.ofNat 6)),(.string ⟨⟨[123]⟩⟩),(.int .i64 (.ofNat 0)),(.int .i64 (.ofNat 2)),(.int .i64 (.ofNat 1)),(.string ⟨⟨[120]⟩⟩),(.int .i64 (.ofNat 0)),(.int .i64 (.ofNat 4)),(.int .i64 (.ofNat 4)),(.string ⟨⟨[]⟩⟩),(.int .i64 (.ofNat 1)),(.int .i64 (.ofNat 5)),(.int .i64 (.ofNat 6)),(.string ⟨⟨[125]⟩⟩),(.int .i64 (.ofNat 0))]
theorem tl5:lex tb5=(tt5,none):=by kernel_rfl
theorem ta5:Jg tt5=tc5:=by kernel_rfl
def tb6:List UInt8:=[80,123]
def tt6:List Tok:=[(0,2,[80],0),(1,6,[123],0)]
def tc6:List Value:=[(.int .i64 (.ofNat 0)),(.int .i64 (.ofNat 2)),(.string ⟨⟨[80]⟩⟩),(.int .i64 (.ofNat 0)),(.int .i64 (.ofNat 1)),(.int .i64 (.ofNat 6)),(.string ⟨⟨[123]⟩⟩),(.int .i64 (.ofNat 0))]
theorem tl6:lex tb6=(tt6,none):=by kernel_rfl
theorem ta6:Jg tt6=tc6:=by kernel_rfl
def tb7:List UInt8:=[97,32,61,32,49,59,32,97,46,98,40,41,59]
def tt7:List Tok:=[(0,1,[97],0),(2,6,[61],0),(4,4,[],1),(5,6,[59],0),(7,1,[97],0),(8,6,[46],0),(9,1,[98],0),(10,6,[40],0),(11,6,[41],0),(12,6,[59],0)]
def tc7:List Value:=[(.int .i64 (.ofNat 0)),(.int .i64 (.ofNat 1)),(.string ⟨⟨[97]⟩⟩),(.int .i64 (.ofNat 0)),(.int .i64 (.ofNat 2)),(.int .i64 (.ofNat 6)),(.string ⟨⟨[61]⟩⟩),(.int .i64 (.ofNat 0)),(.int .i64 (.ofNat 4)),(.int .i64 (.ofNat 4)),(.string ⟨⟨[]⟩⟩),(.int .i64 (.ofNat 1)),(.int .i64 (.ofNat 5)),(.int .i64 (.ofNat 6)),(.string ⟨⟨[59]⟩⟩),(.int .i64 (.ofNat 0)),(.int .i64 (.ofNat 7)),(.int .i64 (.ofNat 1)),(.string ⟨⟨[97]⟩⟩),(.int .i64 (.ofNat 0)),(.int .i64 (.ofNat 8)),(.int .i64 (.ofNat 6)),(.string ⟨⟨[46]⟩⟩),(.int .i64 (.ofNat 0)),(.int .i64 (.ofNat 9)),(.int .i64 (.ofNat 1)),(.string ⟨⟨[98]⟩⟩),(.int .i64 (.ofNat 0)),(.int .i64 (.ofNat 10)),(.int .i64 (.ofNat 6)),(.string ⟨⟨[40]⟩⟩),(.int .i64 (.ofNat 0)),(.int .i64 (.ofNat 11)),(.int .i64 (.ofNat 6)),(.string ⟨⟨[41]⟩⟩),(.int .i64 (.ofNat 0)),(.int .i64 (.ofNat 12)),(.int .i64 (.ofNat 6)),(.string ⟨⟨[59]⟩⟩),(.int .i64 (.ofNat 0))]
theorem tl7:lex tb7=(tt7,none):=by kernel_rfl
theorem ta7:Jg tt7=tc7:=by kernel_rfl
def tb8:List UInt8:=[97,32,61,32,59]
def tt8:List Tok:=[(0,1,[97],0),(2,6,[61],0),(4,6,[59],0)]
def tc8:List Value:=[(.int .i64 (.ofNat 0)),(.int .i64 (.ofNat 1)),(.string ⟨⟨[97]⟩⟩),(.int .i64 (.ofNat 0)),(.int .i64 (.ofNat 2)),(.int .i64 (.ofNat 6)),(.string ⟨⟨[61]⟩⟩),(.int .i64 (.ofNat 0)),(.int .i64 (.ofNat 4)),(.int .i64 (.ofNat 6)),(.string ⟨⟨[59]⟩⟩),(.int .i64 (.ofNat 0))]
theorem tl8:lex tb8=(tt8,none):=by kernel_rfl
theorem ta8:Jg tt8=tc8:=by kernel_rfl
def tb9:List UInt8:=[]
def tt9:List Tok:=[]
def tc9:List Value:=[]
theorem tl9:lex tb9=(tt9,none):=by kernel_rfl
theorem ta9:Jg tt9=tc9:=by kernel_rfl
def tb10:List UInt8:=[109,97,105,110,32,105,110,116,32,123,32,114,101,116,117,114,110,32,48,59,32,125,32,120]
def tt10:List Tok:=[(0,3,[109,97,105,110],0),(5,3,[105,110,116],0),(9,6,[123],0),(11,3,[114,101,116,117,114,110],0),(18,4,[],0),(19,6,[59],0),(21,6,[125],0),(23,1,[120],0)]
def tc10:List Value:=[(.int .i64 (.ofNat 0)),(.int .i64 (.ofNat 3)),(.string ⟨⟨[109,97,105,110]⟩⟩),(.int .i64 (.ofNat 0)),(.int .i64 (.ofNat 5)),(.int .i64 (.ofNat 3)),(.string ⟨⟨[105,110,116]⟩⟩),(.int .i64 (.ofNat 0)),(.int .i64 (.ofNat 9)),(.int .i64 (.ofNat 6)),(.string ⟨⟨[123]⟩⟩),(.int .i64 (.ofNat 0)),(.int .i64 (.ofNat 11)),(.int .i64 (.ofNat 3)),(.string ⟨⟨[114,101,116,117,114,110]⟩⟩),(.int .i64 (.ofNat 0)),(.int .i64 (.ofNat 18)),(.int .i64 (.ofNat 4)),(.string ⟨⟨[]⟩⟩),(.int .i64 (.ofNat 0)),(.int .i64 (.ofNat 19)),(.int .i64 (.ofNat 6)),(.string ⟨⟨[59]⟩⟩),(.int .i64 (.ofNat 0)),(.int .i64 (.ofNat 21)),(.int .i64 (.ofNat 6)),(.string ⟨⟨[125]⟩⟩),(.int .i64 (.ofNat 0)),(.int .i64 (.ofNat 23)),(.int .i64 (.ofNat 1)),(.string ⟨⟨[120]⟩⟩),(.int .i64 (.ofNat 0))]
theorem tl10:lex tb10=(tt10,none):=by kernel_rfl
theorem ta10:Jg tt10=tc10:=by kernel_rfl
def tb11:List UInt8:=[105,110,116,101,114,102,97,99,101,32,123,97,40,105,110,116,41,32,66,59,32,97,40,41,32,66,59,125]
def tt11:List Tok:=[(0,3,[105,110,116,101,114,102,97,99,101],0),(10,6,[123],0),(11,1,[97],0),(12,6,[40],0),(13,3,[105,110,116],0),(16,6,[41],0),(18,2,[66],0),(19,6,[59],0),(21,1,[97],0),(22,6,[40],0),(23,6,[41],0),(25,2,[66],0),(26,6,[59],0),(27,6,[125],0)]
def tc11:List Value:=[(.int .i64 (.ofNat 0)),(.int .i64 (.ofNat 3)),(.string ⟨⟨[105,110,116,101,114,102,97,99,101]⟩⟩),(.int .i64 (.ofNat 0)),(.int .i64 (.ofNat 10)),(.int .i64 (.ofNat 6)),(.string ⟨⟨[123]⟩⟩),(.int .i64 (.ofNat 0)),(.int .i64 (.ofNat 11)),(.int .i64 (.ofNat 1)),(.string ⟨⟨[97]⟩⟩),(.int .i64 (.ofNat 0)),(.int .i64 (.ofNat 12)),(.int .i64 (.ofNat 6)),(.string ⟨⟨[40]⟩⟩),(.int .i64 (.ofNat 0)),(.int .i64 (.ofNat 13)),(.int .i64 (.ofNat 3)),(.string ⟨⟨[105,110,116]⟩⟩),(.int .i64 (.ofNat 0)),(.int .i64 (.ofNat 16)),(.int .i64 (.ofNat 6)),(.string ⟨⟨[41]⟩⟩),(.int .i64 (.ofNat 0)),(.int .i64 (.ofNat 18)),(.int .i64 (.ofNat 2)),(.string ⟨⟨[66]⟩⟩),(.int .i64 (.ofNat 0)),(.int .i64 (.ofNat 19)),(.int .i64 (.ofNat 6)),(.string ⟨⟨[59]⟩⟩),(.int .i64 (.ofNat 0)),(.int .i64 (.ofNat 21)),(.int .i64 (.ofNat 1)),(.string ⟨⟨[97]⟩⟩),(.int .i64 (.ofNat 0)),(.int .i64 (.ofNat 22)),(.int .i64 (.ofNat 6)),(.string ⟨⟨[40]⟩⟩),(.int .i64 (.ofNat 0)),(.int .i64 (.ofNat 23)),(.int .i64 (.ofNat 6)),(.string ⟨⟨[41]⟩⟩),(.int .i64 (.ofNat 0)),(.int .i64 (.ofNat 25)),(.int .i64 (.ofNat 2)),(.string ⟨⟨[66]⟩⟩),(.int .i64 (.ofNat 0)),(.int .i64 (.ofNat 26)),(.int .i64 (.ofNat 6)),(.string ⟨⟨[59]⟩⟩),(.int .i64 (.ofNat 0)),(.int .i64 (.ofNat 27)),(.int .i64 (.ofNat 6)),(.string ⟨⟨[125]⟩⟩),(.int .i64 (.ofNat 0))]
theorem tl11:lex tb11=(tt11,none):=by kernel_rfl
theorem ta11:Jg tt11=tc11:=by kernel_rfl
def tb12:List UInt8:=[109,97,105,110,32,105,110,116,32,123,32,114,101,116,117,114,110,32,48,59,32,125]
def tt12:List Tok:=[(0,3,[109,97,105,110],0),(5,3,[105,110,116],0),(9,6,[123],0),(11,3,[114,101,116,117,114,110],0),(18,4,[],0),(19,6,[59],0),(21,6,[125],0)]
def tc12:List Value:=[(.int .i64 (.ofNat 0)),(.int .i64 (.ofNat 3)),(.string ⟨⟨[109,97,105,110]⟩⟩),(.int .i64 (.ofNat 0)),(.int .i64 (.ofNat 5)),(.int .i64 (.ofNat 3)),(.string ⟨⟨[105,110,116]⟩⟩),(.int .i64 (.ofNat 0)),(.int .i64 (.ofNat 9)),(.int .i64 (.ofNat 6)),(.string ⟨⟨[123]⟩⟩),(.int .i64 (.ofNat 0)),(.int .i64 (.ofNat 11)),(.int .i64 (.ofNat 3)),(.string ⟨⟨[114,101,116,117,114,110]⟩⟩),(.int .i64 (.ofNat 0)),(.int .i64 (.ofNat 18)),(.int .i64 (.ofNat 4)),(.string ⟨⟨[]⟩⟩),(.int .i64 (.ofNat 0)),(.int .i64 (.ofNat 19)),(.int .i64 (.ofNat 6)),(.string ⟨⟨[59]⟩⟩),(.int .i64 (.ofNat 0)),(.int .i64 (.ofNat 21)),(.int .i64 (.ofNat 6)),(.string ⟨⟨[125]⟩⟩),(.int .i64 (.ofNat 0))]
theorem tl12:lex tb12=(tt12,none):=by kernel_rfl
theorem ta12:Jg tt12=tc12:=by kernel_rfl
def tb13:List UInt8:=[40,40,40,40,40,40,40,40,40,40,40,40,40,40,40,40,40,40,40,40,40,40,40,40,40,40,40,40,40,40,40,40,40,40,40,40,40,40,40,40,40,40,40,40,40,40,40,40,40,40,40,40,40,40,40,40,40,40,40,40,40,40,40,40,40]
def tt13:List Tok:=[(0,6,[40],0),(1,6,[40],0),(2,6,[40],0),(3,6,[40],0),(4,6,[40],0),(5,6,[40],0),(6,6,[40],0),(7,6,[40],0),(8,6,[40],0),(9,6,[40],0),(10,6,[40],0),(11,6,[40],0),(12,6,[40],0),(13,6,[40],0),(14,6,[40],0),(15,6,[40],0),(16,6,[40],0),(17,6,[40],0),(18,6,[40],0),(19,6,[40],0),(20,6,[40],0),(21,6,[40],0),(22,6,[40],0),(23,6,[40],0),(24,6,[40],0),(25,6,[40],0),(26,6,[40],0),(27,6,[40],0),(28,6,[40],0),(29,6,[40],0),(30,6,[40],0),(31,6,[40],0),(32,6,[40],0),(33,6,[40],0),(34,6,[40],0),(35,6,[40],0),(36,6,[40],0),(37,6,[40],0),(38,6,[40],0),(39,6,[40],0),(40,6,[40],0),(41,6,[40],0),(42,6,[40],0),(43,6,[40],0),(44,6,[40],0),(45,6,[40],0),(46,6,[40],0),(47,6,[40],0),(48,6,[40],0),(49,6,[40],0),(50,6,[40],0),(51,6,[40],0),(52,6,[40],0),(53,6,[40],0),(54,6,[40],0),(55,6,[40],0),(56,6,[40],0),(57,6,[40],0),(58,6,[40],0),(59,6,[40],0),(60,6,[40],0),(61,6,[40],0),(62,6,[40],0),(63,6,[40],0),(64,6,[40],0)]
def tc13:List Value:=[(.int .i64 (.ofNat 0)),(.int .i64 (.ofNat 6)),(.string ⟨⟨[40]⟩⟩),(.int .i64 (.ofNat 0)),(.int .i64 (.ofNat 1)),(.int .i64 (.ofNat 6)),(.string ⟨⟨[40]⟩⟩),(.int .i64 (.ofNat 0)),(.int .i64 (.ofNat 2)),(.int .i64 (.ofNat 6)),(.string ⟨⟨[40]⟩⟩),(.int .i64 (.ofNat 0)),(.int .i64 (.ofNat 3)),(.int .i64 (.ofNat 6)),(.string ⟨⟨[40]⟩⟩),(.int .i64 (.ofNat 0)),(.int .i64 (.ofNat 4)),(.int .i64 (.ofNat 6)),(.string ⟨⟨[40]⟩⟩),(.int .i64 (.ofNat 0)),(.int .i64 (.ofNat 5)),(.int .i64 (.ofNat 6)),(.string ⟨⟨[40]⟩⟩),(.int .i64 (.ofNat 0)),(.int .i64 (.ofNat 6)),(.int .i64 (.ofNat 6)),(.string ⟨⟨[40]⟩⟩),(.int .i64 (.ofNat 0)),(.int .i64 (.ofNat 7)),(.int .i64 (.ofNat 6)),(.string ⟨⟨[40]⟩⟩),(.int .i64 (.ofNat 0)),(.int .i64 (.ofNat 8)),(.int .i64 (.ofNat 6)),(.string ⟨⟨[40]⟩⟩),(.int .i64 (.ofNat 0)),(.int .i64 (.ofNat 9)),(.int .i64 (.ofNat 6)),(.string ⟨⟨[40]⟩⟩),(.int .i64 (.ofNat 0)),(.int .i64 (.ofNat 10)),(.int .i64 (.ofNat 6)),(.string ⟨⟨[40]⟩⟩),(.int .i64 (.ofNat 0)),(.int .i64 (.ofNat 11)),(.int .i64 (.ofNat 6)),(.string ⟨⟨[40]⟩⟩),(.int .i64 (.ofNat 0)),(.int .i64 (.ofNat 12)),(.int .i64 (.ofNat 6)),(.string ⟨⟨[40]⟩⟩),(.int .i64 (.ofNat 0)),(.int .i64 (.ofNat 13)),(.int .i64 (.ofNat 6)),(.string ⟨⟨[40]⟩⟩),(.int .i64 (.ofNat 0)),(.int .i64 (.ofNat 14)),(.int .i64 (.ofNat 6)),(.string ⟨⟨[40]⟩⟩),(.int .i64 (.ofNat 0)),(.int .i64 (.ofNat 15)),(.int .i64 (.ofNat 6)),(.string ⟨⟨[40]⟩⟩),(.int .i64 (.ofNat 0)),(.int .i64 (.ofNat 16)),(.int .i64 (.ofNat 6)),(.string ⟨⟨[40]⟩⟩),(.int .i64 (.ofNat 0)),(.int .i64 (.ofNat 17)),(.int .i64 (.ofNat 6)),(.string ⟨⟨[40]⟩⟩),(.int .i64 (.ofNat 0)),(.int .i64 (.ofNat 18)),(.int .i64 (.ofNat 6)),(.string ⟨⟨[40]⟩⟩),(.int .i64 (.ofNat 0)),(.int .i64 (.ofNat 19)),(.int .i64 (.ofNat 6)),(.string ⟨⟨[40]⟩⟩),(.int .i64 (.ofNat 0)),(.int .i64 (.ofNat 20)),(.int .i64 (.ofNat 6)),(.string ⟨⟨[40]⟩⟩),(.int .i64 (.ofNat 0)),(.int .i64 (.ofNat 21)),(.int .i64 (.ofNat 6)),(.string ⟨⟨[40]⟩⟩),(.int .i64 (.ofNat 0)),(.int .i64 (.ofNat 22)),(.int .i64 (.ofNat 6)),(.string ⟨⟨[40]⟩⟩),(.int .i64 (.ofNat 0)),(.int .i64 (.ofNat 23)),(.int .i64 (.ofNat 6)),(.string ⟨⟨[40]⟩⟩),(.int .i64 (.ofNat 0)),(.int .i64 (.ofNat 24)),(.int .i64 (.ofNat 6)),(.string ⟨⟨[40]⟩⟩),(.int .i64 (.ofNat 0)),(.int .i64 (.ofNat 25)),(.int .i64 (.ofNat 6)),(.string ⟨⟨[40]⟩⟩),(.int .i64 (.ofNat 0)),(.int .i64 (.ofNat 26)),(.int .i64 (.ofNat 6)),(.string ⟨⟨[40]⟩⟩),(.int .i64 (.ofNat 0)),(.int .i64 (.ofNat 27)),(.int .i64 (.ofNat 6)),(.string ⟨⟨[40]⟩⟩),(.int .i64 (.ofNat 0)),(.int .i64 (.ofNat 28)),(.int .i64 (.ofNat 6)),(.string ⟨⟨[40]⟩⟩),(.int .i64 (.ofNat 0)),(.int .i64 (.ofNat 29)),(.int .i64 (.ofNat 6)),(.string ⟨⟨[40]⟩⟩),(.int .i64 (.ofNat 0)),(.int .i64 (.ofNat 30)),(.int .i64 (.ofNat 6)),(.string ⟨⟨[40]⟩⟩),(.int .i64 (.ofNat 0)),(.int .i64 (.ofNat 31)),(.int .i64 (.ofNat 6)),(.string ⟨⟨[40]⟩⟩),(.int .i64 (.ofNat 0)),(.int .i64 (.ofNat 32)),(.int .i64 (.ofNat 6)),(.string ⟨⟨[40]⟩⟩),(.int .i64 (.ofNat 0)),(.int .i64 (.ofNat 33)),(.int .i64 (.ofNat 6)),(.string ⟨⟨[40]⟩⟩),(.int .i64 (.ofNat 0)),(.int .i64 (.ofNat 34)),(.int .i64 (.ofNat 6)),(.string ⟨⟨[40]⟩⟩),(.int .i64 (.ofNat 0)),(.int .i64 (.ofNat 35)),(.int .i64 (.ofNat 6)),(.string ⟨⟨[40]⟩⟩),(.int .i64 (.ofNat 0)),(.int .i64 (.ofNat 36)),(.int .i64 (.ofNat 6)),(.string ⟨⟨[40]⟩⟩),(.int .i64 (.ofNat 0)),(.int .i64 (.ofNat 37)),(.int .i64 (.ofNat 6)),(.string ⟨⟨[40]⟩⟩),(.int .i64 (.ofNat 0)),(.int .i64 (.ofNat 38)),(.int .i64 (.ofNat 6)),(.string ⟨⟨[40]⟩⟩),(.int .i64 (.ofNat 0)),(.int .i64 (.ofNat 39)),(.int .i64 (.ofNat 6)),(.string ⟨⟨[40]⟩⟩),(.int .i64 (.ofNat 0)),(.int .i64 (.ofNat 40)),(.int .i64 (.ofNat 6)),(.string ⟨⟨[40]⟩⟩),(.int .i64 (.ofNat 0)),(.int .i64 (.ofNat 41)),(.int .i64 (.ofNat 6)),(.string ⟨⟨[40]⟩⟩),(.int .i64 (.ofNat 0)),(.int .i64 (.ofNat 42)),(.int .i64 (.ofNat 6)),(.string ⟨⟨[40]⟩⟩),(.int .i64 (.ofNat 0)),(.int .i64 (.ofNat 43)),(.int .i64 (.ofNat 6)),(.string ⟨⟨[40]⟩⟩),(.int .i64 (.ofNat 0)),(.int .i64 (.ofNat 44)),(.int .i64 (.ofNat 6)),(.string ⟨⟨[40]⟩⟩),(.int .i64 (.ofNat 0)),(.int .i64 (.ofNat 45)),(.int .i64 (.ofNat 6)),(.string ⟨⟨[40]⟩⟩),(.int .i64 (.ofNat 0)),(.int .i64 (.ofNat 46)),(.int .i64 (.ofNat 6)),(.string ⟨⟨[40]⟩⟩),(.int .i64 (.ofNat 0)),(.int .i64 (.ofNat 47)),(.int .i64 (.ofNat 6)),(.string ⟨⟨[40]⟩⟩),(.int .i64 (.ofNat 0)),(.int .i64 (.ofNat 48)),(.int .i64 (.ofNat 6)),(.string ⟨⟨[40]⟩⟩),(.int .i64 (.ofNat 0)),(.int .i64 (.ofNat 49)),(.int .i64 (.ofNat 6)),(.string ⟨⟨[40]⟩⟩),(.int .i64 (.ofNat 0)),(.int .i64 (.ofNat 50)),(.int .i64 (.ofNat 6)),(.string ⟨⟨[40]⟩⟩),(.int .i64 (.ofNat 0)),(.int .i64 (.ofNat 51)),(.int .i64 (.ofNat 6)),(.string ⟨⟨[40]⟩⟩),(.int .i64 (.ofNat 0)),(.int .i64 (.ofNat 52)),(.int .i64 (.ofNat 6)),(.string ⟨⟨[40]⟩⟩),(.int .i64 (.ofNat 0)),(.int .i64 (.ofNat 53)),(.int .i64 (.ofNat 6)),(.string ⟨⟨[40]⟩⟩),(.int .i64 (.ofNat 0)),(.int .i64 (.ofNat 54)),(.int .i64 (.ofNat 6)),(.string ⟨⟨[40]⟩⟩),(.int .i64 (.ofNat 0)),(.int .i64 (.ofNat 55)),(.int .i64 (.ofNat 6)),(.string ⟨⟨[40]⟩⟩),(.int .i64 (.ofNat 0)),(.int .i64 (.ofNat 56)),(.int .i64 (.ofNat 6)),(.string ⟨⟨[40]⟩⟩),(.int .i64 (.ofNat 0)),(.int .i64 (.ofNat 57)),(.int .i64 (.ofNat 6)),(.string ⟨⟨[40]⟩⟩),(.int .i64 (.ofNat 0)),(.int .i64 (.ofNat 58)),(.int .i64 (.ofNat 6)),(.string ⟨⟨[40]⟩⟩),(.int .i64 (.ofNat 0)),(.int .i64 (.ofNat 59)),(.int .i64 (.ofNat 6)),(.string ⟨⟨[40]⟩⟩),(.int .i64 (.ofNat 0)),(.int .i64 (.ofNat 60)),(.int .i64 (.ofNat 6)),(.string ⟨⟨[40]⟩⟩),(.int .i64 (.ofNat 0)),(.int .i64 (.ofNat 61)),(.int .i64 (.ofNat 6)),(.string ⟨⟨[40]⟩⟩),(.int .i64 (.ofNat 0)),(.int .i64 (.ofNat 62)),(.int .i64 (.ofNat 6)),(.string ⟨⟨[40]⟩⟩),(.int .i64 (.ofNat 0)),(.int .i64 (.ofNat 63)),(.int .i64 (.ofNat 6)),(.string ⟨⟨[40]⟩⟩),(.int .i64 (.ofNat 0)),(.int .i64 (.ofNat 64)),(.int .i64 (.ofNat 6)),(.string ⟨⟨[40]⟩⟩),(.int .i64 (.ofNat 0))]
theorem tl13:lex tb13=(tt13,none):=by kernel_rfl
theorem ta13:Jg tt13=tc13:=by kernel_rfl
def tb14:List UInt8:=[116,121,112,101,32,65,32,61,32,105,110,116,59]
def tt14:List Tok:=[(0,3,[116,121,112,101],0),(5,2,[65],0),(7,6,[61],0),(9,3,[105,110,116],0),(12,6,[59],0)]
def tc14:List Value:=[(.int .i64 (.ofNat 0)),(.int .i64 (.ofNat 3)),(.string ⟨⟨[116,121,112,101]⟩⟩),(.int .i64 (.ofNat 0)),(.int .i64 (.ofNat 5)),(.int .i64 (.ofNat 2)),(.string ⟨⟨[65]⟩⟩),(.int .i64 (.ofNat 0)),(.int .i64 (.ofNat 7)),(.int .i64 (.ofNat 6)),(.string ⟨⟨[61]⟩⟩),(.int .i64 (.ofNat 0)),(.int .i64 (.ofNat 9)),(.int .i64 (.ofNat 3)),(.string ⟨⟨[105,110,116]⟩⟩),(.int .i64 (.ofNat 0)),(.int .i64 (.ofNat 12)),(.int .i64 (.ofNat 6)),(.string ⟨⟨[59]⟩⟩),(.int .i64 (.ofNat 0))]
theorem tl14:lex tb14=(tt14,none):=by kernel_rfl
theorem ta14:Jg tt14=tc14:=by kernel_rfl
def tb15:List UInt8:=[109,101,116,104,111,100,32,65,46,109,40,41,32,105,110,116,32,123,125,32,116,121,112,101,32,66,32,61,32,65,59]
def tt15:List Tok:=[(0,3,[109,101,116,104,111,100],0),(7,2,[65],0),(8,6,[46],0),(9,1,[109],0),(10,6,[40],0),(11,6,[41],0),(13,3,[105,110,116],0),(17,6,[123],0),(18,6,[125],0),(20,3,[116,121,112,101],0),(25,2,[66],0),(27,6,[61],0),(29,2,[65],0),(30,6,[59],0)]
def tc15:List Value:=[(.int .i64 (.ofNat 0)),(.int .i64 (.ofNat 3)),(.string ⟨⟨[109,101,116,104,111,100]⟩⟩),(.int .i64 (.ofNat 0)),(.int .i64 (.ofNat 7)),(.int .i64 (.ofNat 2)),(.string ⟨⟨[65]⟩⟩),(.int .i64 (.ofNat 0)),(.int .i64 (.ofNat 8)),(.int .i64 (.ofNat 6)),(.string ⟨⟨[46]⟩⟩),(.int .i64 (.ofNat 0)),(.int .i64 (.ofNat 9)),(.int .i64 (.ofNat 1)),(.string ⟨⟨[109]⟩⟩),(.int .i64 (.ofNat 0)),(.int .i64 (.ofNat 10)),(.int .i64 (.ofNat 6)),(.string ⟨⟨[40]⟩⟩),(.int .i64 (.ofNat 0)),(.int .i64 (.ofNat 11)),(.int .i64 (.ofNat 6)),(.string ⟨⟨[41]⟩⟩),(.int .i64 (.ofNat 0)),(.int .i64 (.ofNat 13)),(.int .i64 (.ofNat 3)),(.string ⟨⟨[105,110,116]⟩⟩),(.int .i64 (.ofNat 0)),(.int .i64 (.ofNat 17)),(.int .i64 (.ofNat 6)),(.string ⟨⟨[123]⟩⟩),(.int .i64 (.ofNat 0)),(.int .i64 (.ofNat 18)),(.int .i64 (.ofNat 6)),(.string ⟨⟨[125]⟩⟩),(.int .i64 (.ofNat 0)),(.int .i64 (.ofNat 20)),(.int .i64 (.ofNat 3)),(.string ⟨⟨[116,121,112,101]⟩⟩),(.int .i64 (.ofNat 0)),(.int .i64 (.ofNat 25)),(.int .i64 (.ofNat 2)),(.string ⟨⟨[66]⟩⟩),(.int .i64 (.ofNat 0)),(.int .i64 (.ofNat 27)),(.int .i64 (.ofNat 6)),(.string ⟨⟨[61]⟩⟩),(.int .i64 (.ofNat 0)),(.int .i64 (.ofNat 29)),(.int .i64 (.ofNat 2)),(.string ⟨⟨[65]⟩⟩),(.int .i64 (.ofNat 0)),(.int .i64 (.ofNat 30)),(.int .i64 (.ofNat 6)),(.string ⟨⟨[59]⟩⟩),(.int .i64 (.ofNat 0))]
theorem tl15:lex tb15=(tt15,none):=by kernel_rfl
theorem ta15:Jg tt15=tc15:=by kernel_rfl
def lexT (l:List UInt8):Option (Nat×List Value):=cond (bytesEq l tb0) (some (10,tc0)) (cond (bytesEq l tb1) (some (5,tc1)) (cond (bytesEq l tb2) (some (10,tc2)) (cond (bytesEq l tb3) (some (5,tc3)) (cond (bytesEq l tb4) (some (11,tc4)) (cond (bytesEq l tb5) (some (5,tc5)) (cond (bytesEq l tb6) (some (2,tc6)) (cond (bytesEq l tb7) (some (10,tc7)) (cond (bytesEq l tb8) (some (3,tc8)) (cond (bytesEq l tb9) (some (0,tc9)) (cond (bytesEq l tb10) (some (8,tc10)) (cond (bytesEq l tb11) (some (14,tc11)) (cond (bytesEq l tb12) (some (7,tc12)) (cond (bytesEq l tb13) (some (65,tc13)) (cond (bytesEq l tb14) (some (5,tc14)) (cond (bytesEq l tb15) (some (14,tc15)) (none))))))))))))))))
theorem lexT_ok {l:List UInt8} {n:Nat} {cs:List Value} (h:lexT l=some (n,cs)):∃ts,lex l=(ts,none)/\ts.length=n/\Jg ts=cs/\l.length<=100000:=by
 unfold lexT at h
 cases h0:bytesEq l tb0 with
 | true=>
  rw[h0]at h;obtain⟨rfl,rfl⟩:=Prod.mk.inj (Option.some.inj h);obtain rfl:l=tb0:=by rw[bytesEq_eq]at h0;simpa using h0
  exact⟨tt0,tl0,rfl,ta0,by decide⟩
 | false=>
 rw[h0]at h;simp only[cond_false]at h
 cases h1:bytesEq l tb1 with
 | true=>
  rw[h1]at h;obtain⟨rfl,rfl⟩:=Prod.mk.inj (Option.some.inj h);obtain rfl:l=tb1:=by rw[bytesEq_eq]at h1;simpa using h1
  exact⟨tt1,tl1,rfl,ta1,by decide⟩
 | false=>
 rw[h1]at h;simp only[cond_false]at h
 cases h2:bytesEq l tb2 with
 | true=>
  rw[h2]at h;obtain⟨rfl,rfl⟩:=Prod.mk.inj (Option.some.inj h);obtain rfl:l=tb2:=by rw[bytesEq_eq]at h2;simpa using h2
  exact⟨tt2,tl2,rfl,ta2,by decide⟩
 | false=>
 rw[h2]at h;simp only[cond_false]at h
 cases h3:bytesEq l tb3 with
 | true=>
  rw[h3]at h;obtain⟨rfl,rfl⟩:=Prod.mk.inj (Option.some.inj h);obtain rfl:l=tb3:=by rw[bytesEq_eq]at h3;simpa using h3
  exact⟨tt3,tl3,rfl,ta3,by decide⟩
 | false=>
 rw[h3]at h;simp only[cond_false]at h
 cases h4:bytesEq l tb4 with
 | true=>
  rw[h4]at h;obtain⟨rfl,rfl⟩:=Prod.mk.inj (Option.some.inj h);obtain rfl:l=tb4:=by rw[bytesEq_eq]at h4;simpa using h4
  exact⟨tt4,tl4,rfl,ta4,by decide⟩
 | false=>
 rw[h4]at h;simp only[cond_false]at h
 cases h5:bytesEq l tb5 with
 | true=>
  rw[h5]at h;obtain⟨rfl,rfl⟩:=Prod.mk.inj (Option.some.inj h);obtain rfl:l=tb5:=by rw[bytesEq_eq]at h5;simpa using h5
  exact⟨tt5,tl5,rfl,ta5,by decide⟩
 | false=>
 rw[h5]at h;simp only[cond_false]at h
 cases h6:bytesEq l tb6 with
 | true=>
  rw[h6]at h;obtain⟨rfl,rfl⟩:=Prod.mk.inj (Option.some.inj h);obtain rfl:l=tb6:=by rw[bytesEq_eq]at h6;simpa using h6
  exact⟨tt6,tl6,rfl,ta6,by decide⟩
 | false=>
 rw[h6]at h;simp only[cond_false]at h
 cases h7:bytesEq l tb7 with
 | true=>
  rw[h7]at h;obtain⟨rfl,rfl⟩:=Prod.mk.inj (Option.some.inj h);obtain rfl:l=tb7:=by rw[bytesEq_eq]at h7;simpa using h7
  exact⟨tt7,tl7,rfl,ta7,by decide⟩
 | false=>
 rw[h7]at h;simp only[cond_false]at h
 cases h8:bytesEq l tb8 with
 | true=>
  rw[h8]at h;obtain⟨rfl,rfl⟩:=Prod.mk.inj (Option.some.inj h);obtain rfl:l=tb8:=by rw[bytesEq_eq]at h8;simpa using h8
  exact⟨tt8,tl8,rfl,ta8,by decide⟩
 | false=>
 rw[h8]at h;simp only[cond_false]at h
 cases h9:bytesEq l tb9 with
 | true=>
  rw[h9]at h;obtain⟨rfl,rfl⟩:=Prod.mk.inj (Option.some.inj h);obtain rfl:l=tb9:=by rw[bytesEq_eq]at h9;simpa using h9
  exact⟨tt9,tl9,rfl,ta9,by decide⟩
 | false=>
 rw[h9]at h;simp only[cond_false]at h
 cases h10:bytesEq l tb10 with
 | true=>
  rw[h10]at h;obtain⟨rfl,rfl⟩:=Prod.mk.inj (Option.some.inj h);obtain rfl:l=tb10:=by rw[bytesEq_eq]at h10;simpa using h10
  exact⟨tt10,tl10,rfl,ta10,by decide⟩
 | false=>
 rw[h10]at h;simp only[cond_false]at h
 cases h11:bytesEq l tb11 with
 | true=>
  rw[h11]at h;obtain⟨rfl,rfl⟩:=Prod.mk.inj (Option.some.inj h);obtain rfl:l=tb11:=by rw[bytesEq_eq]at h11;simpa using h11
  exact⟨tt11,tl11,rfl,ta11,by decide⟩
 | false=>
 rw[h11]at h;simp only[cond_false]at h
 cases h12:bytesEq l tb12 with
 | true=>
  rw[h12]at h;obtain⟨rfl,rfl⟩:=Prod.mk.inj (Option.some.inj h);obtain rfl:l=tb12:=by rw[bytesEq_eq]at h12;simpa using h12
  exact⟨tt12,tl12,rfl,ta12,by decide⟩
 | false=>
 rw[h12]at h;simp only[cond_false]at h
 cases h13:bytesEq l tb13 with
 | true=>
  rw[h13]at h;obtain⟨rfl,rfl⟩:=Prod.mk.inj (Option.some.inj h);obtain rfl:l=tb13:=by rw[bytesEq_eq]at h13;simpa using h13
  exact⟨tt13,tl13,rfl,ta13,by decide⟩
 | false=>
 rw[h13]at h;simp only[cond_false]at h
 cases h14:bytesEq l tb14 with
 | true=>
  rw[h14]at h;obtain⟨rfl,rfl⟩:=Prod.mk.inj (Option.some.inj h);obtain rfl:l=tb14:=by rw[bytesEq_eq]at h14;simpa using h14
  exact⟨tt14,tl14,rfl,ta14,by decide⟩
 | false=>
 rw[h14]at h;simp only[cond_false]at h
 cases h15:bytesEq l tb15 with
 | true=>
  rw[h15]at h;obtain⟨rfl,rfl⟩:=Prod.mk.inj (Option.some.inj h);obtain rfl:l=tb15:=by rw[bytesEq_eq]at h15;simpa using h15
  exact⟨tt15,tl15,rfl,ta15,by decide⟩
 | false=>
 rw[h15]at h;simp only[cond_false]at h
 cases h
theorem size_list (b:ByteArray):b.size=b.data.toList.length:=rfl
theorem tok_fn:CallOk Tryz.prog (fun f' args s k=>cond (Nat.beq f' 83) (xTok 174 4 lexT args s k) false):=tok_ok (by kernel_rfl) (by decide) fun b n cs w h=>by
 obtain⟨ts,h1,h2,h3,h4⟩:=lexT_ok h;have hb:b.size<=140737488355328:=by rw[size_list];omega
 refine(Tokens_any0 b hb w).mono fun ev W' hs=>?_
 refine⟨hs.1,?_⟩;have h5:=hs.2;rw[h1]at h5;obtain⟨v,e1,e2,e3⟩:=h5;exact⟨v,e1,by rw[<-h2,<-h3];exact e2,fun hz=>e3 (List.length_eq_zero_iff.1 (h2.trans hz))⟩
end Go.Proofs.YtdamlfkieecnjaaGreatDoor
