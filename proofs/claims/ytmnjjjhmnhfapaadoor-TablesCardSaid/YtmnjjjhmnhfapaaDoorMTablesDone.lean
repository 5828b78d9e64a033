/- Tables is true for every table, strength and shift: New of package collate answers the line and the error that the document's reading of the table gives, a collator just where there is none, and never panics (P3 to P5). -/
import Derived.Test.YtmnjjjhmnhfapaaDoorMCodeNew
import Derived.Test.YtmnjjjhmnhfapaaDoorMTablesCard
namespace Go.Proofs.YtmnjjjhmnhfapaaDoor

theorem tables_card_said : Rows.TablesCardSaid := tables_card_of new_said
#print axioms tables_card_said
end Go.Proofs.YtmnjjjhmnhfapaaDoor
